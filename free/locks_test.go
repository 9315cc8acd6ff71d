package free_test

import (
	"fmt"
	"testing"

	"dapple/api"
)

// TestLocks: free, held, one's own, not there, no integer.
func TestLocks(t *testing.T) {
	late := loop(100, "(yield)")
	for s, want := range map[string]api.Ended{
		"(lock 0) 5":                     word(number(5)),
		"(lock 0)":                       word(nothing()),
		"(lock 0) (unlock 0)":            word(nothing()),
		"(lock 0) (unlock 0) (lock 0) 5": word(number(5)),
		"(lock 7) (lock 0) (lock 3) (unlock 7) (unlock 0) 5": word(number(5)),
		"(lock 0) (lock 0)":              fault(api.ErrLocksTwice),
		"(unlock 0)":                     fault(api.ErrLocksNot),
		"(lock 0) (unlock 0) (unlock 0)": fault(api.ErrLocksNot),
		"(lock 0) (unlock 1)":            fault(api.ErrLocksNot),
		"(lock 8)":                       fault(api.ErrLocksNone),
		"(lock -1)":                      fault(api.ErrLocksNone),
		"(unlock 8)":                     fault(api.ErrLocksNone),
		"(unlock -1)":                    fault(api.ErrLocksNone),
		"(lock 576460752303423487)":      fault(api.ErrLocksNone),
		"(lock '())":                     fault(api.ErrWordKind),
		"(unlock #t)":                    fault(api.ErrWordKind),
		"(lock 0) (join (spawn (lambda () (unlock 0))))":                                                                                   fault(api.ErrLocksNot),
		"(lock 0) (join (spawn (lambda () (lock 1) 7)))":                                                                                   word(number(7)),
		"(join (spawn (lambda () (lock 0) 7))) (lock 0) 8":                                                                                 word(number(8)),
		"(spawn (lambda () (lock 0) (error 1))) (lock 0) 8":                                                                                word(number(8)),
		"(spawn (lambda () (lock 0) (5))) " + late + " (lock 0) 8":                                                                         word(number(8)),
		"(lock 0) (define t (spawn (lambda () (lock 0) 7))) (unlock 0) (join t)":                                                           word(number(7)),
		"(lock 0) (define t (spawn (lambda () (lock 0) 7))) " + late + " (unlock 0) (join t)":                                              word(number(7)),
		"(lock 0) (define t (spawn (lambda () (lock 0) (lock 0)))) " + late + " (unlock 0) (join t)":                                       fault(api.ErrLocksTwice),
		"(define f (lambda () (lock 0) (lock 1) 7)) (define t (spawn f)) (define u (spawn f)) (+ (join t) (join u))":                       word(number(14)),
		"(define f (lambda () (lock 0) (error 1))) (define t (spawn f)) (define u (spawn f)) (define v (spawn f)) " + late + " (lock 0) 9": word(number(9)),
	} {
		c := compiled(t, s)
		onProcessors(func() {
			for range 20 {
				ends(t, comes(t, 400, 8, c, 0), want)
			}
		})
		if t.Failed() {
			t.Fatal(s)
		}
	}
}

// TestEightLocks: each is another one: who holds one is in nobody's way who wants another one.
func TestEightLocks(t *testing.T) {
	text := ""
	for n := range 8 {
		text += fmt.Sprintf("const int %d\n", n)
	}
	for n := range 8 {
		text += fmt.Sprintf("proc 0\n const %d\n lock\n return\n", n)
	}
	for range 50 {
		if o := comes(t, 4, 8, parsed(t, text), 0, 1, 2, 3, 4, 5, 6, 7); o.Steps != 16 {
			t.Fatal(o.Steps)
		}
	}
}

// TestOneAtATime: a lock is held by one: nobody sees what others do under it; and each gets it in the end.
func TestOneAtATime(t *testing.T) {
	program, procs := crewOf(t, 7, loop(25, "(lock 0) (if (eq? x 0) 0 (error 1)) (set! x 1) (add b 1) (yield) (set! x 0) (unlock 0)"))
	onProcessors(func() {
		for range 20 {
			o := comes(t, 4096, 1, program, procs...)
			for i, x := range o.Ended {
				if x.Err != api.OK {
					t.Fatal(i, x)
				}
			}
			if got := shown(t, o.Heap, o.Globals[2]); got != "#box(175)" {
				t.Fatal(got)
			}
		}
	})
}

// TestHandedOnAtTheEnd: who ends, by whatever, hands all its locks on.
func TestHandedOnAtTheEnd(t *testing.T) {
	for _, end := range []string{"5", "(error 1)", "(car 1)", "(lock 0)", "(unlock 2)", "(join 2)", "(join 9)", "undefined", "(let ((l '())) (while #t (set! l (cons 1 l))))"} {
		c := compiled(t, crew("(lock 0) (lock 1) "+end, "(lock 0) (set! x (+ x 1))", "(lock 1) (set! y (+ y 1))"))
		for range 30 {
			o := comes(t, 100, 3, c, crewProcs(c)...)
			if o.Ended[2].Err != api.OK || o.Ended[3].Err != api.OK || o.Globals[0] != number(1) || o.Globals[1] != number(1) {
				t.Fatal(end, o.Ended, o.Globals)
			}
		}
	}
}
