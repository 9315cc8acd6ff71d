package baton_test

import (
	"math"
	"slices"
	"testing"

	"dapple/api"
	"dapple/baton"
	"dapple/code"
	"dapple/world"
)

// TestErrorNumber: as the chapter lists it.
func TestErrorNumber(t *testing.T) {
	if api.ErrBatonShut != 210 {
		t.Error(api.ErrBatonShut)
	}
}

// TestExample1: the collector's goroutine, and the thread's.
func TestExample1(t *testing.T) {
	d := newDesk(t, 4, 0, parsed(t, consing))
	if n, e := d.Start(0); n != 1 || e != api.OK {
		t.Error(n, e)
	}
	d.closes(2)
	d.closes(0)
}

// TestExample2: a step, and nothing behind Close.
func TestExample2(t *testing.T) {
	d := newDesk(t, 4, 0, parsed(t, consing))
	d.starts(0)
	if e, did := d.Pick(0); !did || !same(e, api.Event{Actor: 1, What: api.StepAlloc, Cell: 0, Old: number(5), New: null()}) {
		t.Error(e, did)
	}
	d.closes(2)
	if e, did := d.Pick(0); did || !same(e, api.Event{}) {
		t.Error(e, did)
	}
	if n, e := d.Start(0); n != 0 || e != api.ErrBatonShut {
		t.Error(n, e)
	}
	if h := d.Heap(); !slices.Equal(h, []api.Cell{{Kind: api.KindPair, A: number(5), B: null()}, {}, {}, {}}) {
		t.Error(h)
	}
	if d.Steps() != 1 {
		t.Error(d.Steps())
	}
}

// refusesNew sees that New tells that error, and nothing.
func refusesNew(t *testing.T, c api.Config, program api.Code, want api.Errno) {
	t.Helper()
	if b, e := baton.New(c, program); b != nil || e != want {
		t.Errorf("New(%v): %v, %d, not %d", c, b, e, want)
	}
}

// TestExample3: three cells are too few.
func TestExample3(t *testing.T) {
	refusesNew(t, api.Config{Cells: 3}, parsed(t, consing), api.ErrArg)
}

// TestConfigs: Cells 4 to 4096, Locks 0 to 8; which is told ahead of what is wrong with the code.
func TestConfigs(t *testing.T) {
	good := parsed(t, consing)
	for _, cells := range []int{math.MinInt, -1, 0, 3, 4, 5, 4095, 4096, 4097, math.MaxInt} {
		for _, locks := range []int{math.MinInt, -1, 0, 1, 8, 9, math.MaxInt} {
			c := api.Config{Cells: cells, Locks: locks}
			if cells < 4 || cells > 4096 || locks < 0 || locks > 8 {
				refusesNew(t, c, good, api.ErrArg)
				refusesNew(t, c, api.Code{}, api.ErrArg)
				continue
			}
			refusesNew(t, c, api.Code{}, api.ErrCodeForm)
			b := newBoth(t, c, good)
			b.looks()
			if len(b.Heap()) != cells || len(b.Free()) != cells || b.Threads() != 0 || b.Steps() != 0 {
				t.Error(c, len(b.Heap()), len(b.Free()), b.Threads(), b.Steps())
			}
			b.closes(1)
		}
	}
}

// TestCodeThatMayNotBe: Check's error.
func TestCodeThatMayNotBe(t *testing.T) {
	change := func(f func(c *api.Code)) api.Code {
		c := parsed(t, consing)
		f(&c)
		return c
	}
	for i, c := range []api.Code{
		{},
		change(func(c *api.Code) { c.Procs = nil }),
		change(func(c *api.Code) { c.Procs = slices.Repeat(c.Procs, 257) }),
		change(func(c *api.Code) { c.Consts = slices.Repeat(c.Consts, 600) }),
		change(func(c *api.Code) { c.Globals = []string{"x", "x"} }),
		change(func(c *api.Code) { c.Procs[0].Params = -1 }),
		change(func(c *api.Code) { c.Procs[0].Code[0].A = 2 }),
		change(func(c *api.Code) { c.Procs[0].Code = c.Procs[0].Code[:4] }),
		change(func(c *api.Code) { c.Procs[0].Code[1] = api.Instr{Op: api.OpPop} }),
	} {
		want, _, _ := code.Check(c)
		if want == api.OK {
			t.Fatal(i, "may be")
		}
		refusesNew(t, api.Config{Cells: 4}, c, want)
		refusesNew(t, api.Config{Cells: 4096, Locks: 8}, c, want)
		refusesNew(t, api.Config{Cells: 4097}, c, api.ErrArg)
	}
}

// TestWrongCalls are answered as a world answers them.
func TestWrongCalls(t *testing.T) {
	program := compiled(t, "(define f (lambda (x) x)) (define g (lambda () 1)) (f 1)")
	b := newBoth(t, api.Config{Cells: 8}, program)
	for _, p := range []int{math.MinInt, -1, 1, 3, 4, math.MaxInt} {
		if n, e := b.Start(p); n != 0 || e != api.ErrArg {
			t.Errorf("Start(%d): %d, %d", p, n, e)
		}
	}
	b.looks()
	for _, p := range []int{0, 2, 0, 2, 0, 2, 0, 2} {
		b.makes(move{toStart, p})
	}
	for _, p := range []int{0, 2, 7} {
		if a := b.makes(move{toStart, p}); a.n != 0 || a.e != api.ErrLocksMuch && p < 7 || a.e != api.ErrArg && p == 7 {
			t.Errorf("Start(%d): %+v", p, a)
		}
	}
	for range 2 {
		b.makes(move{toCollect, 0})
	}
	if e := b.Collect(); e != api.ErrBusy {
		t.Error(e)
	}
	for _, n := range []int{math.MinInt, -1, 0, 9, math.MaxInt} {
		if x, e := b.Ended(n); x != (api.Ended{}) || e != api.ErrWorldThread {
			t.Errorf("Ended(%d): %+v, %d", n, x, e)
		}
	}
	b.looks()
}

// TestPlaces: of Ready's list the one at the place n modulo its length goes a step.
func TestPlaces(t *testing.T) {
	for threads := range 9 {
		d := newDesk(t, 4, 0, compiled(t, "(while #t (yield))"))
		d.starts(make([]int, threads)...)
		for _, n := range []uint32{0, 1, 2, 7, 8, 9, 10, 17, 1000, 1 << 31, 1<<31 + 1, math.MaxUint32 - 1, math.MaxUint32} {
			d.Collect()
			ready := d.Ready()
			want := ready[uint64(n)%uint64(len(ready))]
			if e, did := d.Pick(n); !did || e.Actor != want {
				t.Errorf("Pick(%d) of %v: %+v, %t", n, ready, e, did)
			}
		}
		d.closes(1 + threads)
	}
}

// TestCodeIsCopied: what is handed in is neither changed nor kept.
func TestCodeIsCopied(t *testing.T) {
	c, again := compiled(t, busy), compiled(t, busy)
	d := newDesk(t, 60, 1, c)
	w, _ := world.New(api.Config{Cells: 60, Locks: 1}, again)
	d.starts(0)
	w.Start(0)
	if !code.Same(c, again) {
		t.Error("the code was changed")
	}
	for i := range c.Consts {
		c.Consts[i] = number(77)
	}
	for i := range c.Globals {
		c.Globals[i] = "spoilt"
	}
	for i := range c.Procs {
		clear(c.Procs[i].Code)
		c.Procs[i] = api.Proc{Params: 5}
	}
	b := both{d, w}
	for range 100 {
		b.makes(move{toSettle, 7})
		b.looks()
	}
}

// busy is a program of three threads.
const busy = "(define b (box 0)) (define l '()) (define run (lambda (n) (while (< 0 n) (lock 0) (set! l (cons n '())) (set-box! b (+ 1 (unbox b))) (unlock 0) (set! n (- n 1))))) (define u (spawn (lambda () (run 5)))) (define v (spawn (lambda () (run 5)))) (run 5) (join u) (join v) (unbox b)"
