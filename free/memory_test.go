package free_test

import (
	"slices"
	"testing"

	"dapple/api"
	"dapple/code"
	"dapple/free"
)

// busy is a program of three threads that comes to one thing whoever is picked, its cells with it.
const busy = "(define b (box 0)) (define l '()) (define run (lambda (n) (while (< 0 n) (lock 0) (set! l (cons 1 l)) (set-box! b (+ 1 (unbox b))) (unlock 0) (set! n (- n 1))))) (define u (spawn (lambda () (run 5)))) (define v (spawn (lambda () (run 5)))) (run 5) (join u) (join v) (cons l 's)"

// withRoom is that list, with something behind its length.
func withRoom[T any](l []T, behind T) []T {
	return append(slices.Clone(l), behind, behind, behind)[:len(l)]
}

// roomyCode is that code, of which each list has room behind it, in which something stands that may not be.
func roomyCode(c api.Code) api.Code {
	out := api.Code{Consts: withRoom(c.Consts, 0), Globals: withRoom(c.Globals, "no symbol"), Procs: withRoom(c.Procs, api.Proc{Params: -1})}
	for i, p := range out.Procs {
		out.Procs[i].Code = withRoom(p.Code, api.Instr{Op: 99, A: -1})
	}
	return out
}

// isWhole tells whether a list has behind its length what was laid there.
func isWhole[T comparable](l []T, behind T) bool {
	for _, x := range l[len(l) : len(l)+3] {
		if x != behind {
			return false
		}
	}
	return true
}

// unchanged sees that code with room behind its lists is what it was, and so is that room.
func unchanged(t *testing.T, c, was api.Code) {
	t.Helper()
	ok := code.Same(c, was) && isWhole(c.Consts, 0) && isWhole(c.Globals, "no symbol")
	for _, p := range c.Procs {
		ok = ok && isWhole(p.Code, api.Instr{Op: 99, A: -1})
	}
	for _, p := range c.Procs[len(c.Procs) : len(c.Procs)+3] {
		ok = ok && p.Params == -1 && p.Code == nil
	}
	if !ok {
		t.Fatal("the code was changed")
	}
}

// TestHandedInStays: code and the list of procs stay as they were, whatever a run comes to; and what stands behind them is not read.
func TestHandedInStays(t *testing.T) {
	for _, row := range []struct {
		source string
		cells  int
		want   api.Errno
		procs  []int
	}{
		{busy, 100, api.OK, []int{0, 0}},
		{busy, 4, api.OK, []int{0}},
		{busy, 100, api.ErrArg, []int{0, 99}},
		{busy, 3, api.ErrArg, []int{0}},
		{"(lock 0) (join (spawn (lambda () (lock 0))))", 10, api.ErrFreeStuck, []int{0}},
		{"(while #t (yield))", 10, api.ErrFreeMuch, []int{0, 0, 0}},
	} {
		was := compiled(t, row.source)
		c, procs := roomyCode(was), withRoom(row.procs, -7)
		o, e := free.Run(api.Config{Cells: row.cells, Locks: 1}, c, procs...)
		if e != row.want || len(o.Ended) != len(row.procs) && e == api.OK {
			t.Errorf("%q: %d, %v", row.source, e, o.Ended)
		}
		unchanged(t, c, was)
		if !slices.Equal(procs, row.procs) || !isWhole(procs, -7) {
			t.Error(procs)
		}
	}
}

// spoil writes over a list, and over the room behind it.
func spoil[T any](l []T, with T) {
	l = l[:cap(l)]
	for i := range l {
		l[i] = with
	}
}

// spoilt writes over all lists of an outcome.
func spoilt(o free.Outcome) {
	spoil(o.Ended, api.Ended{Err: 77})
	spoil(o.Globals, 77)
	spoil(o.Heap, api.Cell{Kind: 9, Colour: 9, A: 77, B: 77})
}

// TestNotKept: what was handed in may be written over behind the call, and nothing of the outcome is another one.
func TestNotKept(t *testing.T) {
	c := compiled(t, busy)
	procs := []int{0}
	o := comes(t, 100, 1, c, procs...)
	was := look(t, o)
	spoil(c.Consts, number(77))
	spoil(c.Globals, "spoilt")
	for i := range c.Procs {
		spoil(c.Procs[i].Code, api.Instr{})
	}
	procs[0] = 9
	if got := look(t, o); got != was {
		t.Errorf("%s, not %s", got, was)
	}
	if got := look(t, comes(t, 100, 1, compiled(t, busy), 0)); got != was {
		t.Errorf("%s, not %s", got, was)
	}
}

// TestOutcomesAreNew: outcomes that are written over leave others as they are, whether these were there before or come after.
func TestOutcomesAreNew(t *testing.T) {
	c := compiled(t, busy)
	var all []free.Outcome
	var looks []string
	for i := range 30 {
		o := comes(t, 100, 1, c, 0)
		all, looks = append(all, o), append(looks, look(t, o))
		if looks[i] != looks[0] {
			t.Fatal(looks[i])
		}
		if i%3 == 2 {
			spoilt(all[i-1])
		}
	}
	for i, o := range all {
		if i%3 != 1 && look(t, o) != looks[i] {
			t.Error(i, "was changed")
		}
	}
	unspoilt := compiled(t, busy)
	if !code.Same(c, unspoilt) {
		t.Error("the code was changed")
	}
}

// TestOneOutcomeSharesNothing: each list of an outcome written over, the others stay.
func TestOneOutcomeSharesNothing(t *testing.T) {
	c := compiled(t, busy)
	o := comes(t, 100, 1, c, 0)
	ended, globals, heap := slices.Clone(o.Ended), slices.Clone(o.Globals), slices.Clone(o.Heap)
	spoil(o.Globals, 77)
	if !slices.Equal(o.Ended, ended) || !slices.Equal(o.Heap, heap) {
		t.Error("by globals")
	}
	copy(o.Globals, globals)
	spoil(o.Heap, api.Cell{A: 77})
	if !slices.Equal(o.Ended, ended) || !slices.Equal(o.Globals, globals) {
		t.Error("by cells")
	}
}
