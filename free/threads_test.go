package free_test

import (
	"fmt"
	"strings"
	"testing"

	"dapple/api"
)

// TestSpawns: up to eight threads in all; who would begin a ninth ends by ErrLocksMuch, whether those before it still go or have
// ended.
func TestSpawns(t *testing.T) {
	for _, body := range []string{"5", "(yield)", "(join 1)"} {
		for spawns := range 10 {
			c := compiled(t, strings.Repeat("(spawn (lambda () "+body+"))", spawns)+" 6")
			for range 20 {
				o := comes(t, 40, 0, c, 0)
				want, threads := word(number(6)), 1+spawns
				if spawns > 7 {
					want, threads = fault(api.ErrLocksMuch), 8
				}
				if ends(t, o, want); o.Threads != threads {
					t.Fatalf("%d spawns: %d threads", spawns, o.Threads)
				}
			}
		}
	}
}

// TestSpawnsBesideOthers: of so many that were there at the beginning on.
func TestSpawnsBesideOthers(t *testing.T) {
	c := parsed(t, "const int 5\nproc 0\n closure 1\n spawn\n return\nproc 0\n const 0\n return\n")
	for n := 1; n <= 8; n++ {
		procs := make([]int, n) // all of them spawn
		o := comes(t, 20, 0, c, procs...)
		much := 0
		for _, x := range o.Ended {
			if x == fault(api.ErrLocksMuch) {
				much++
			}
		}
		if much != max(0, 2*n-8) || o.Threads != min(2*n, 8) {
			t.Errorf("%d procs: %d refused, %d threads", n, much, o.Threads)
		}
	}
}

// TestSpawnedByWhom: a thread begins with its closure's procedure and environment, whoever spawned it.
func TestSpawnedByWhom(t *testing.T) {
	c := compiled(t, "(define w (lambda (n) (lambda () (if (< n 2) (cons n '()) (cons n (join (spawn (w (- n 1))))))))) (join (spawn (w 7)))")
	for range 100 {
		o := comes(t, 100, 0, c, 0)
		if got := shown(t, o.Heap, o.Ended[0].Word); got != "(7 6 5 4 3 2 1)" || o.Threads != 8 {
			t.Fatal(got, o.Threads)
		}
	}
	c = compiled(t, "(define w (lambda (n) (lambda () (if (< n 2) (cons n '()) (cons n (join (spawn (w (- n 1))))))))) (join (spawn (w 8)))")
	ends(t, comes(t, 100, 0, c, 0), fault(api.ErrLocksMuch))
}

// TestSpawnOfWhatIsNone: no closure, or one that takes arguments; nobody is begun.
func TestSpawnOfWhatIsNone(t *testing.T) {
	for s, want := range map[string]api.Errno{"(spawn 5)": api.ErrVMCall, "(spawn (cons 1 2))": api.ErrVMCall, "(spawn (lambda (x) x))": api.ErrVMArgs} {
		o := comes(t, 10, 0, compiled(t, s), 0)
		if ends(t, o, fault(want)); o.Threads != 1 {
			t.Error(s, o.Threads)
		}
	}
}

// TestLongestLives: who was spawned goes on when the one that spawned it has ended; the run ends when all have.
func TestLongestLives(t *testing.T) {
	c := compiled(t, "(define x 0) (spawn (lambda () "+loop(500, "(yield)")+" (set! x 5))) 6")
	for range 50 {
		o := comes(t, 20, 0, c, 0)
		ends(t, o, word(number(6)))
		if o.Globals[0] != number(5) {
			t.Fatal(o.Globals)
		}
	}
}

// TestJoins: of one that has ended, by a word or an error, of one that has not yet, of oneself, of one that is none.
func TestJoins(t *testing.T) {
	late := loop(100, "(yield)")
	for s, want := range map[string]api.Ended{
		"(join (spawn (lambda () 7)))":                                                 word(number(7)),
		"(join (spawn (lambda () " + late + " 7)))":                                    word(number(7)),
		"(define t (spawn (lambda () 7))) " + late + " (join t)":                       word(number(7)),
		"(define t (spawn (lambda () 7))) (join t) (join t)":                           word(number(7)),
		"(join (spawn (lambda () (error 1))))":                                         fault(api.ErrVMRaised),
		"(join (spawn (lambda () " + late + " (car 1))))":                              fault(api.ErrWordKind),
		"(define t (spawn (lambda () (5)))) " + late + " (join t)":                     fault(api.ErrVMCall),
		"(define t (spawn (lambda () (error 1)))) (join (spawn (lambda () (join t))))": fault(api.ErrVMRaised),
		"(join 1)":                            fault(api.ErrLocksSelf),
		"(join 2)":                            fault(api.ErrLocksNone),
		"(join 0)":                            fault(api.ErrLocksNone),
		"(join -1)":                           fault(api.ErrLocksNone),
		"(join 9)":                            fault(api.ErrLocksNone),
		"(join 576460752303423487)":           fault(api.ErrLocksNone),
		"(join '())":                          fault(api.ErrWordKind),
		"(join (spawn (lambda () (join 2))))": fault(api.ErrLocksSelf),
		"(join (spawn (lambda () (join 3))))": fault(api.ErrLocksNone),
		"(define t (spawn (lambda () '()))) (null? (join t))":                  word(tagged(api.TagTrue, 0)),
		"(define t (spawn (lambda () (yield)))) (join t)":                      word(nothing()),
		"(define t (spawn (lambda () (spawn (lambda () 7))))) (join (join t))": word(number(7)),
		"(define a (spawn (lambda () " + late + " 7))) (define f (lambda () (join a))) (define b (spawn f)) (define c (spawn f)) (define d (spawn f)) (+ (+ (join b) (join c)) (+ (join d) (join a)))": word(number(28)),
	} {
		c := compiled(t, s)
		onProcessors(func() {
			for range 20 {
				ends(t, comes(t, 400, 0, c, 0), want)
			}
		})
		if t.Failed() {
			t.Fatal(s)
		}
	}
}

// TestJoinChain: each thread joins the next one; the last one's result comes to all.
func TestJoinChain(t *testing.T) {
	text := "const int 70\n"
	for n := range 7 {
		text += fmt.Sprintf("const int %d\n", n+2)
	}
	for n := range 7 {
		text += fmt.Sprintf("proc 0\n const %d\n join\n return\n", n+1)
	}
	text += "proc 0\n" + strings.Repeat(" yield\n pop\n", 30) + " const 0\n return\n"
	c := parsed(t, text)
	for range 100 {
		o := comes(t, 4, 0, c, 0, 1, 2, 3, 4, 5, 6, 7)
		for i, x := range o.Ended {
			if x != word(number(70)) {
				t.Fatal(i, x)
			}
		}
		// A join that waits asks again when it has been woken.
		if o.Steps < 30+1+7*2 || o.Steps > 30+1+7*3 {
			t.Fatal(o.Steps)
		}
	}
}

// TestEndedOfProcsAlone: how spawned threads have ended is not told, nor does it matter.
func TestEndedOfProcsAlone(t *testing.T) {
	c := compiled(t, "(spawn (lambda () (error 1))) (spawn (lambda () 8)) 7")
	for range 50 {
		o := comes(t, 20, 0, c, 0, 0)
		ends(t, o, word(number(7)), word(number(7)))
		if o.Threads != 6 {
			t.Fatal(o.Threads)
		}
	}
}
