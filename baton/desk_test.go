package baton_test

import (
	"fmt"
	"reflect"
	"slices"
	"testing"

	"dapple/api"
	"dapple/baton"
	"dapple/code"
	"dapple/compile"
	"dapple/forms"
	"dapple/names"
	"dapple/read"
	"dapple/words"
	"dapple/world"
)

// face is what a world can be asked, and a baton too.
type face interface {
	Start(proc int) (int, api.Errno)
	Collect() api.Errno
	Ready() []int
	Pick(n uint32) (api.Event, bool)
	Settle(most int) int
	Steps() int
	Threads() int
	Phase() (api.Phase, int)
	Heap() []api.Cell
	Free() []int
	Waiting() []api.Waiter
	Roots() []api.Word
	Globals() []api.Word
	Ended(thread int) (api.Ended, api.Errno)
	View() api.View
}

// sight is all that can be seen.
type sight struct {
	ready   []int
	steps   int
	threads int
	phase   api.Phase
	begun   int
	heap    []api.Cell
	free    []int
	waiting []api.Waiter
	roots   []api.Word
	globals []api.Word
	ended   [api.MaxThreads + 2]api.Ended
	errs    [api.MaxThreads + 2]api.Errno
	view    api.View
}

func seen(w face) sight {
	s := sight{ready: w.Ready(), steps: w.Steps(), threads: w.Threads(), heap: w.Heap(), free: w.Free(), waiting: w.Waiting(), roots: w.Roots(), globals: w.Globals(), view: w.View()}
	s.phase, s.begun = w.Phase()
	for i := range s.ended {
		s.ended[i], s.errs[i] = w.Ended(i)
	}
	return s
}

// still is a sight in which nobody can go a step.
func (s sight) still() sight {
	s.ready = nil
	return s
}

// differs is what is not the same in two sights; nothing, if all is.
func (s sight) differs(o sight) string {
	switch {
	case !slices.Equal(s.ready, o.ready):
		return fmt.Sprint("ready ", s.ready, o.ready)
	case s.steps != o.steps:
		return fmt.Sprint("steps ", s.steps, o.steps)
	case s.threads != o.threads:
		return fmt.Sprint("threads ", s.threads, o.threads)
	case s.phase != o.phase || s.begun != o.begun:
		return fmt.Sprint("phase ", s.phase, s.begun, o.phase, o.begun)
	case !slices.Equal(s.heap, o.heap):
		return fmt.Sprint("heap ", s.heap, o.heap)
	case !slices.Equal(s.free, o.free):
		return fmt.Sprint("free ", s.free, o.free)
	case !slices.Equal(s.waiting, o.waiting):
		return fmt.Sprint("waiting ", s.waiting, o.waiting)
	case !slices.Equal(s.roots, o.roots):
		return fmt.Sprint("roots ", s.roots, o.roots)
	case !slices.Equal(s.globals, o.globals):
		return fmt.Sprint("globals ", s.globals, o.globals)
	case s.ended != o.ended || s.errs != o.errs:
		return fmt.Sprint("ended ", s.ended, s.errs, o.ended, o.errs)
	case !sameView(s.view, o.view):
		return fmt.Sprintf("view %+v, %+v", s.view, o.view)
	}
	return ""
}

// sameView tells whether two views are the same; no list is an empty one.
func sameView(a, b api.View) bool {
	return slices.Equal(a.Cells, b.Cells) && a.Phase == b.Phase && a.Swept == b.Swept && slices.Equal(a.Grey, b.Grey) &&
		slices.Equal(a.Globals, b.Globals) && a.Laid == b.Laid && slices.EqualFunc(a.Lanes, b.Lanes, sameLane)
}

func sameLane(a, b api.Lane) bool {
	return slices.Equal(a.Roots, b.Roots) && a.Scanned == b.Scanned && a.Ended == b.Ended
}

// same tells whether two events are the same; no list is an empty one.
func same(a, b api.Event) bool {
	ok := slices.Equal(a.Shaded, b.Shaded)
	a.Shaded, b.Shaded = nil, nil
	return ok && reflect.DeepEqual(a, b)
}

func number(n int64) api.Word { return tagged(api.TagInt, n) }
func null() api.Word          { return tagged(api.TagNil, 0) }

func tagged(t api.Tag, n int64) api.Word {
	w, _ := words.Make(t, n)
	return w
}

// consing is the code of the examples: 5 and nil are consed, the pair's car is answered.
const consing = "const int 5\nconst nil\nproc 0\n const 0\n const 1\n prim 1\n prim 2\n return\n"

// parsed is the code of a text.
func parsed(t testing.TB, text string) api.Code {
	t.Helper()
	c, e, line := code.Parse(text)
	if e != api.OK {
		t.Fatal(text, e, line)
	}
	return c
}

// compiled is the code of a source.
func compiled(t testing.TB, source string) api.Code {
	t.Helper()
	l, e, at := read.Read(source)
	if e != api.OK {
		t.Fatal(source, e, at)
	}
	var fs []api.Form
	for _, x := range l {
		f, e, path := forms.Of(x)
		if e != api.OK {
			t.Fatal(source, e, path)
		}
		fs = append(fs, f)
	}
	table, _ := names.New()
	c, e, form := compile.Compile(table, fs...)
	if e != api.OK {
		t.Fatal(source, e, form)
	}
	return c
}

// desk has a baton, and sees that it answers what it is told; when its test ends, the baton is shut.
type desk struct {
	testing.TB
	*baton.Baton
}

func newDesk(t testing.TB, cells, locks int, c api.Code) desk {
	t.Helper()
	b, e := baton.New(api.Config{Cells: cells, Locks: locks}, c)
	if e != api.OK || b == nil {
		t.Fatal(b, e)
	}
	t.Cleanup(func() { b.Close() })
	return desk{t, b}
}

// starts begins a thread of each of these procedures.
func (d desk) starts(procs ...int) {
	d.Helper()
	for _, p := range procs {
		want := d.Threads() + 1
		if n, e := d.Start(p); n != want || e != api.OK {
			d.Fatalf("Start(%d): %d, %d", p, n, e)
		}
	}
}

// collects asks for a cycle.
func (d desk) collects() {
	d.Helper()
	if e := d.Collect(); e != api.OK {
		d.Fatal("Collect:", e)
	}
}

// goes lets an actor go a step.
func (d desk) goes(actor int) api.Event {
	d.Helper()
	at := slices.Index(d.Ready(), actor)
	if at < 0 {
		d.Fatalf("%d can't go a step: ready are %v", actor, d.Ready())
	}
	e, did := d.Pick(uint32(at))
	if !did || e.Actor != actor {
		d.Fatalf("Pick of %d: %+v, %t", actor, e, did)
	}
	return e
}

// till lets an actor go steps, up to and with one of that kind, which is told.
func (d desk) till(actor int, what api.What) api.Event {
	d.Helper()
	for range 20000 {
		if e := d.goes(actor); e.What == what {
			return e
		}
	}
	d.Fatalf("no step %d of %d", what, actor)
	return api.Event{}
}

func (d desk) ready(want ...int) {
	d.Helper()
	if got := d.Ready(); !slices.Equal(got, want) {
		d.Errorf("ready %v, not %v", got, want)
	}
}

// closes shuts the baton, and sees how many goroutines it had.
func (d desk) closes(want int) {
	d.Helper()
	if n := d.Close(); n != want {
		d.Errorf("Close: %d, not %d", n, want)
	}
}

// both is a baton, and a world that was made of the same and is asked the same.
type both struct {
	desk
	w *world.World
}

func newBoth(t testing.TB, c api.Config, program api.Code) both {
	t.Helper()
	w, e := world.New(c, program)
	if e != api.OK {
		t.Fatal(e)
	}
	return both{newDesk(t, c.Cells, c.Locks, program), w}
}

// makes makes a move of both, which must answer the same.
func (b both) makes(x move) answer {
	b.Helper()
	got, want := made(b.Baton, x), made(b.w, x)
	if !got.same(want) {
		b.Fatalf("%v: %+v, not %+v", x, got, want)
	}
	return got
}

// looks sees that both look the same.
func (b both) looks() {
	b.Helper()
	if s := seen(b.Baton).differs(seen(b.w)); s != "" {
		b.Fatal(s)
	}
}
