package free_test

import (
	"slices"
	"testing"

	"dapple/api"
	"dapple/free"
)

// TestErrorNumbers: as the chapter lists them.
func TestErrorNumbers(t *testing.T) {
	if api.ErrArg != 1 || api.ErrFreeStuck != 241 || api.ErrFreeMuch != 242 || api.ErrNoCells != 121 || api.MaxFreeRuns != 100000 {
		t.Error(api.ErrArg, api.ErrFreeStuck, api.ErrFreeMuch, api.ErrNoCells, api.MaxFreeRuns)
	}
}

// TestExample1: one thread, then two of the same procedure.
func TestExample1(t *testing.T) {
	c := parsed(t, consing)
	o := comes(t, 4, 0, c, 0)
	ends(t, o, word(number(5)))
	if !slices.Equal(o.Heap, []api.Cell{pair(number(5), null()), {}, {}, {}}) || o.Threads != 1 || o.Steps != 3 {
		t.Errorf("%+v", o)
	}
	o = comes(t, 4, 0, c, 0, 0)
	ends(t, o, word(number(5)), word(number(5)))
	if !slices.Equal(o.Heap, []api.Cell{pair(number(5), null()), pair(number(5), null()), {}, {}}) || o.Threads != 2 || o.Steps != 6 {
		t.Errorf("%+v", o)
	}
}

// TestExample2: what goes on for ever, and what waits for ever.
func TestExample2(t *testing.T) {
	fails(t, api.ErrFreeMuch, api.Config{Cells: 4}, parsed(t, "proc 0\n jump 0\n"), 0)
	fails(t, api.ErrFreeStuck, api.Config{Cells: 8, Locks: 1}, compiled(t, "(lock 0) (join (spawn (lambda () (lock 0))))"), 0)
}

// TestExample3: what may not be.
func TestExample3(t *testing.T) {
	c := parsed(t, consing)
	fails(t, api.ErrArg, api.Config{Cells: 4}, c)
	fails(t, api.ErrArg, api.Config{Cells: 4}, c, 1)
	fails(t, api.ErrArg, api.Config{Cells: 4}, c, 0, 0, 0, 0, 0, 0, 0, 0, 0)
	fails(t, api.ErrArg, api.Config{Cells: 3}, c, 0)
}

// TestBeginning: what there is ahead of the first step: all cells free, globals that are none, free locks, threads by their
// numbers in the order of procs, each with its own procedure and the environment nil.
func TestBeginning(t *testing.T) {
	c := parsed(t, "const int 1\nconst int 2\nconst int 3\nglobal x\nglobal y\nproc 0\n const 0\n return\nproc 1\n var 0\n return\nproc 0\n const 1\n return\nproc 0\n var 0\n return\n")
	o := comes(t, 5, 3, c, 2, 0, 3, 2)
	ends(t, o, word(number(2)), word(number(1)), fault(api.ErrVMUnset), word(number(2)))
	if !slices.Equal(o.Heap, make([]api.Cell, 5)) || !slices.Equal(o.Globals, []api.Word{nothing(), nothing()}) || o.Threads != 4 || o.Steps != 4 {
		t.Errorf("%+v", o)
	}
	ends(t, comes(t, 4, 0, parsed(t, "global x\nproc 0\n global 0\n return\n"), 0), fault(api.ErrVMUnset))
	env := parsed(t, "proc 0\n closure 0\n return\n")
	if o := comes(t, 4, 0, env, 0); o.Heap[0] != (api.Cell{Kind: api.KindClosure, A: number(0), B: null()}) {
		t.Errorf("%+v", o)
	}
}

// TestNumbersFromOne: threads of procs have the numbers 1, 2 and so on, and who is spawned the next ones, also when many spawn as soon
// as they can.
func TestNumbersFromOne(t *testing.T) {
	c := compiled(t, "(define f (lambda () (join (spawn (lambda () 5))))) 0")
	spawning := parsed(t, "proc 0\n closure 1\n spawn\n return\nproc 0\n yield\n return\n")
	for range 200 {
		o := comes(t, 20, 0, spawning, 0, 0, 0, 0)
		var l []api.Word
		for _, x := range o.Ended {
			l = append(l, x.Word)
		}
		slices.Sort(l)
		if !slices.Equal(l, []api.Word{number(5), number(6), number(7), number(8)}) || o.Threads != 8 {
			t.Fatal(l, o.Threads)
		}
		o = comes(t, 20, 0, c, 1, 1, 1, 1)
		ends(t, o, word(number(5)), word(number(5)), word(number(5)), word(number(5)))
	}
}

// TestJoinByNumber: thread n is the one of the n-th of procs.
func TestJoinByNumber(t *testing.T) {
	text := "const int 1\nconst int 2\nconst int 3\nconst int 70\nconst int 80\nconst int 90\n"
	for _, n := range []string{"3", "4", "5"} {
		text += "proc 0\n const " + n + "\n return\n"
	}
	for _, n := range []string{"0", "1", "2"} {
		text += "proc 0\n const " + n + "\n join\n return\n"
	}
	c := parsed(t, text)
	for range 50 {
		ends(t, comes(t, 4, 0, c, 0, 1, 2, 3, 4, 5), word(number(70)), word(number(80)), word(number(90)), word(number(70)), word(number(80)), word(number(90)))
		ends(t, comes(t, 4, 0, c, 2, 0, 1, 5, 3, 4), word(number(90)), word(number(70)), word(number(80)), word(number(80)), word(number(90)), word(number(70)))
	}
}

// TestOutcomeOfNoLists: code without globals has an outcome without them.
func TestOutcomeOfNoLists(t *testing.T) {
	o, e := free.Run(api.Config{Cells: 4}, parsed(t, "proc 0\n closure 0\n return\n"), 0)
	if e != api.OK || len(o.Globals) != 0 || used(o.Heap) != 1 {
		t.Errorf("%+v, %d", o, e)
	}
}
