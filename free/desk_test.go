package free_test

import (
	"fmt"
	"runtime"
	"slices"
	"strings"
	"testing"

	"dapple/api"
	"dapple/code"
	"dapple/compile"
	"dapple/forms"
	"dapple/free"
	"dapple/names"
	"dapple/read"
	"dapple/show"
	"dapple/words"
)

func number(n int64) api.Word { return tagged(api.TagInt, n) }
func null() api.Word          { return tagged(api.TagNil, 0) }
func nothing() api.Word       { return tagged(api.TagNone, 0) }

func tagged(t api.Tag, n int64) api.Word {
	w, _ := words.Make(t, n)
	return w
}

// consing is the code of the examples: 5 and nil are consed, the pair's car is answered.
const consing = "const int 5\nconst nil\nproc 0\n const 0\n const 1\n prim 1\n prim 2\n return\n"

// parsed is the code of a text.
func parsed(t testing.TB, text string) api.Code {
	t.Helper()
	c, e, line := code.Parse(text)
	if e != api.OK {
		t.Fatal(text, e, line)
	}
	return c
}

// compiled is the code of a source.
func compiled(t testing.TB, source string) api.Code {
	t.Helper()
	l, e, at := read.Read(source)
	if e != api.OK {
		t.Fatal(source, e, at)
	}
	var fs []api.Form
	for _, x := range l {
		f, e, path := forms.Of(x)
		if e != api.OK {
			t.Fatal(source, e, path)
		}
		fs = append(fs, f)
	}
	table, _ := names.New()
	c, e, form := compile.Compile(table, fs...)
	if e != api.OK {
		t.Fatal(source, e, form)
	}
	return c
}

// word is how a thread ends with a word; fault how it ends by an error.
func word(w api.Word) api.Ended { return api.Ended{Ended: true, Word: w} }

func fault(e api.Errno) api.Ended { return api.Ended{Ended: true, Err: e} }

// comes is the outcome of a run, which must be one.
func comes(t testing.TB, cells, locks int, c api.Code, procs ...int) free.Outcome {
	t.Helper()
	o, e := free.Run(api.Config{Cells: cells, Locks: locks}, c, procs...)
	if e != api.OK {
		t.Fatalf("%v: %d", procs, e)
	}
	if len(o.Heap) != cells || len(o.Globals) != len(c.Globals) || len(o.Ended) != len(procs) || o.Threads < len(procs) || o.Threads > api.MaxThreads || o.Steps < o.Threads || o.Steps > api.MaxFreeRuns {
		t.Fatalf("%v: %d cells, %d globals, %d ended, %d threads, %d steps", procs, len(o.Heap), len(o.Globals), len(o.Ended), o.Threads, o.Steps)
	}
	for i, x := range o.Ended {
		if !x.Ended || x.Err != api.OK && x.Word != 0 {
			t.Fatalf("thread %d: %+v", i+1, x)
		}
	}
	return o
}

// ends sees how the threads of a run end.
func ends(t testing.TB, o free.Outcome, want ...api.Ended) {
	t.Helper()
	if !slices.Equal(o.Ended, want) {
		t.Errorf("ended: %v, not %v", o.Ended, want)
	}
}

// fails sees that a run comes to an error, and to nothing beside it.
func fails(t testing.TB, want api.Errno, c api.Config, program api.Code, procs ...int) {
	t.Helper()
	o, e := free.Run(c, program, procs...)
	if e != want || len(o.Ended)+len(o.Globals)+len(o.Heap) != 0 || o.Threads != 0 || o.Steps != 0 {
		t.Errorf("Run(%v, %v): %d, not %d; ended %v, %d globals, %d cells, %d threads, %d steps", c, procs, e, want, o.Ended, len(o.Globals), len(o.Heap), o.Threads, o.Steps)
	}
}

// used is how many cells of a heap are not free.
func used(h []api.Cell) int {
	n := 0
	for _, c := range h {
		if c.Kind != api.KindFree {
			n++
		}
	}
	return n
}

// pair is a white one.
func pair(a, b api.Word) api.Cell { return api.Cell{Kind: api.KindPair, A: a, B: b} }

// shown is the text of a word of a heap; where it ended by an error, there is none.
func shown(t testing.TB, h []api.Cell, w api.Word) string {
	t.Helper()
	if w == 0 {
		return "-"
	}
	s, e := show.Show(h, symbols(), w)
	if e != api.OK {
		t.Fatal(w, e)
	}
	return s
}

// symbols are names for as many symbols as a source of these tests has.
func symbols() []string { return strings.Fields("s0 s1 s2 s3 s4 s5 s6 s7") }

// look is all of an outcome but for the numbers of cells, and its steps: how its threads end, what its globals have, and what each
// cell looks like, those that nobody has any more with them.
func look(t testing.TB, o free.Outcome) string {
	t.Helper()
	var l, all []string
	for _, x := range o.Ended {
		l = append(l, fmt.Sprint(x.Ended, x.Err, shown(t, o.Heap, x.Word)))
	}
	for _, w := range o.Globals {
		l = append(l, shown(t, o.Heap, w))
	}
	for i, c := range o.Heap {
		if c.Kind != api.KindFree {
			all = append(all, fmt.Sprint(c.Kind, c.Colour, shown(t, o.Heap, words.Ref(i))))
		}
	}
	slices.Sort(all)
	return fmt.Sprint(strings.Join(l, "; "), " of ", o.Threads, ": ", strings.Join(all, "; "))
}

// onProcessors does something while goroutines have one processor, then two, then all that there are.
func onProcessors(do func()) {
	all := runtime.GOMAXPROCS(0)
	defer runtime.GOMAXPROCS(all)
	for _, n := range []int{1, 2, all} {
		runtime.GOMAXPROCS(n)
		do()
	}
}
