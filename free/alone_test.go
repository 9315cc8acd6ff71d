package free_test

import (
	"math/rand"
	"slices"
	"testing"

	"dapple/api"
	"dapple/free"
	"dapple/model"
	"dapple/world"
)

// alone sees that one thread by itself does what it does in a world; true, if that has cells enough for it.
func alone(t testing.TB, c api.Config, program api.Code, proc int) bool {
	t.Helper()
	w, e := world.New(c, program)
	if e != api.OK {
		t.Fatal(e)
	}
	w.Start(proc)
	w.Settle(api.MaxFreeRuns + 1)
	end, _ := w.Ended(1)
	if len(w.Waiting()) > 0 {
		return false
	}
	if w.Steps() > api.MaxFreeRuns || !end.Ended {
		fails(t, api.ErrFreeMuch, c, program, proc)
		return true
	}
	o := comes(t, c.Cells, c.Locks, program, proc)
	ends(t, o, end)
	if !slices.Equal(o.Globals, w.Globals()) || o.Threads != w.Threads() || o.Steps != w.Steps() {
		t.Errorf("globals %v, not %v; %d threads, not %d; %d steps, not %d", o.Globals, w.Globals(), o.Threads, w.Threads(), o.Steps, w.Steps())
	}
	h := free.Outcome{Ended: []api.Ended{end}, Globals: w.Globals(), Heap: w.Heap(), Threads: 1}
	if got, want := look(t, o), look(t, h); got != want {
		t.Errorf("%s, not %s", got, want)
	}
	return true
}

// refused sees that one thread by itself, for which there are too few cells, does what it does in a model that refuses it the first
// one that is none any more.
func refused(t testing.TB, c api.Config, program api.Code, proc int) {
	t.Helper()
	m, e := model.New(c.Locks, program)
	if e != api.OK {
		t.Fatal(e)
	}
	m.Start(proc)
	steps := 1 // in a model the asking and the end are one step
	for e == api.OK {
		if len(m.Heap()) == c.Cells {
			m.Refuse(1)
		}
		if _, e = m.Step(1); e == api.OK {
			steps++
		}
	}
	end, _ := m.Ended(1)
	if end != fault(api.ErrNoCells) {
		t.Fatal(end)
	}
	o := comes(t, c.Cells, c.Locks, program, proc)
	ends(t, o, end)
	if !slices.Equal(o.Globals, m.Globals()) || o.Threads != 1 || o.Steps != steps {
		t.Errorf("globals %v, not %v; %d threads; %d steps, not %d", o.Globals, m.Globals(), o.Threads, o.Steps, steps)
	}
	h := free.Outcome{Ended: []api.Ended{end}, Globals: m.Globals(), Heap: m.Heap(), Threads: 1}
	if got, want := look(t, o), look(t, h); got != want {
		t.Errorf("%s, not %s", got, want)
	}
}

// TestAloneDrawn: drawn programs of one thread.
func TestAloneDrawn(t *testing.T) {
	t.Parallel()
	errs := map[api.Errno]int{}
	few, steps := 0, 0
	for seed := range int64(3000) {
		c, program := lone(t, rand.New(rand.NewSource(seed)))
		if !alone(t, c, program, 0) {
			refused(t, c, program, 0)
			few++
		}
		if o, e := free.Run(c, program, 0); e == api.OK {
			errs[o.Ended[0].Err]++
			steps += o.Steps
		} else {
			errs[e]++
		}
		if t.Failed() {
			t.Fatal("seed", seed)
		}
	}
	for _, e := range []api.Errno{api.OK, api.ErrNoCells, api.ErrWordKind, api.ErrVMCall, api.ErrVMArgs, api.ErrVMRaised, api.ErrVMUnset, api.ErrLocksNone, api.ErrLocksTwice, api.ErrLocksNot, api.ErrLocksSelf} {
		if errs[e] == 0 {
			t.Error("no program came to", e)
		}
	}
	if few < 200 || steps < 100000 {
		t.Error(few, steps)
	}
}

// TestAlonePrograms: each kind of access, each end, and rows of them.
func TestAlonePrograms(t *testing.T) {
	for _, s := range []string{
		"5",
		"(car (cons 5 '()))",
		"(cdr (cons 5 '()))",
		"(define c (cons 1 2)) (set-cdr! c c) (set-car! c 7) c",
		"(define b (box 1)) (set-box! b 2) (unbox b)",
		"(define b (box 1)) (cons (cas b 1 2) (cons (cas b 1 3) (unbox b)))",
		"(define b (box 1)) (add b 5) (add b -9)",
		"(define b (box '())) (add b 5)",
		"(define b (box 576460752303423487)) (add b 1)",
		"(car 5)", "(unbox (cons 1 2))", "(car (box 1))", "(pair? (box 1))", "(5)", "((lambda (x) x))",
		"(define x 1) (set! x (cons x x)) x", "undefined",
		"(lock 0) (unlock 0) (lock 0) 5", "(lock 0) (lock 0)", "(unlock 0)", "(lock 1)", "(lock -1)", "(lock '())", "(unlock 1)",
		"(join 1)", "(join 2)", "(join 0)", "(join '())",
		"(define f (lambda (n) (if (< n 2) 1 (* n (f (- n 1)))))) (f 15)",
		"(define f (lambda (n) (+ 1 (f n)))) (f 1)",
		"(define r (lambda (l a) (if (null? l) a (r (cdr l) (cons (car l) a))))) (r '(1 2 3 4) '())",
		"(define m (lambda (a b c) (lambda () (set! b (+ b c)) (cons a b)))) (define k (m 1 2 3)) (k) (k)",
		"(yield)", "(define i 0) (while (< i 5) (yield) (set! i (+ i 1))) i",
	} {
		c := api.Config{Cells: 4096, Locks: 1}
		if !alone(t, c, compiled(t, s), 0) || t.Failed() {
			t.Fatal(s)
		}
	}
}

// TestAloneByAnyProc: a thread begins with whichever procedure takes no arguments.
func TestAloneByAnyProc(t *testing.T) {
	c := compiled(t, "(define f (lambda () (cons 1 (box 2)))) (define g (lambda () (lambda () 5)))")
	for p := range c.Procs {
		alone(t, api.Config{Cells: 10}, c, p)
	}
}

// TestAloneOnFewCells: on each number of cells, too few, just enough, one more.
func TestAloneOnFewCells(t *testing.T) {
	c := compiled(t, "(define l '()) (define i 0) (while (< i 9) (set! l (cons i l)) (set! i (+ i 1))) l")
	for cells := 4; cells < 15; cells++ {
		if enough := alone(t, api.Config{Cells: cells}, c, 0); enough != (cells >= 9) {
			t.Error(cells, enough)
		} else if !enough {
			refused(t, api.Config{Cells: cells}, c, 0)
		}
	}
}

// TestAloneForLong: as many steps as may be gone, and one more.
func TestAloneForLong(t *testing.T) {
	t.Parallel()
	for _, n := range []int{1, 2, 49997, 49998, 49999} {
		for yields := range 4 {
			program, steps := countdown(t, n, yields), 2*n+yields+3
			if !alone(t, api.Config{Cells: 4}, program, 0) {
				t.Fatal("too few cells")
			}
			o, e := free.Run(api.Config{Cells: 4}, program, 0)
			if steps > api.MaxFreeRuns && e != api.ErrFreeMuch || steps <= api.MaxFreeRuns && o.Steps != steps {
				t.Errorf("%d steps: %d, %d", steps, o.Steps, e)
			}
		}
	}
}
