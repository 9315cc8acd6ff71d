package baton_test

import (
	"math/rand"
	"runtime"
	"sync"
	"sync/atomic"
	"testing"

	"dapple/api"
)

// met counts what drawn batons met, so that a test can see that they met it all.
type met struct {
	whats  [api.StepFinish + 1]int
	errs   map[api.Errno]int
	shaded int
}

func newMet() *met { return &met{errs: map[api.Errno]int{}} }

func (m *met) note(e api.Event) {
	m.whats[e.What]++
	m.errs[e.Err]++
	m.shaded += len(e.Shaded)
}

// drawnRun makes moves that are drawn from a seed, of a baton and of a world, and looks at both behind each.
func drawnRun(t testing.TB, seed int64, moves int, m *met) {
	t.Helper()
	r := rand.New(rand.NewSource(seed))
	c, program := drawn(t, r)
	b := newBoth(t, c, program)
	from := newMover(r)
	b.looks()
	for range moves {
		if a := b.makes(from.next(b.w)); a.yes {
			m.note(a.event)
		}
		b.looks()
	}
	b.closes(1 + b.w.Threads())
}

// TestDrawnBatons: drawn programs under drawn calls: a baton answers what a world does, call by call, and all that can be seen
// of both is the same, behind each.
func TestDrawnBatons(t *testing.T) {
	t.Parallel()
	m := newMet()
	for seed := range int64(1000) {
		drawnRun(t, seed, 250, m)
		if t.Failed() {
			t.Fatal("seed", seed)
		}
	}
	for what := api.StepLoad; what <= api.StepFinish; what++ {
		if m.whats[what] < 100 {
			t.Errorf("%d steps of %d", m.whats[what], what)
		}
	}
	for _, e := range []api.Errno{api.ErrNoCells, api.ErrWordKind, api.ErrVMCall, api.ErrVMArgs, api.ErrVMRaised, api.ErrVMUnset, api.ErrLocksNone, api.ErrLocksTwice, api.ErrLocksNot, api.ErrLocksSelf, api.ErrLocksMuch} {
		if m.errs[e] < 5 {
			t.Errorf("%d steps with %d", m.errs[e], e)
		}
	}
	if m.shaded < 1000 {
		t.Error(m.shaded, "were shaded")
	}
}

// FuzzBatons: as TestDrawnBatons, from any seed.
func FuzzBatons(f *testing.F) {
	for seed := range int64(10) {
		f.Add(-1 - seed)
	}
	f.Fuzz(func(t *testing.T, seed int64) { drawnRun(t, seed, 400, newMet()) })
}

// TestPrograms: whole programs come to what they say, on heaps with far fewer cells than they take in all.
func TestPrograms(t *testing.T) {
	for _, row := range []struct {
		source string
		want   int64
		cells  int
	}{
		{"(car (cons 5 '()))", 5, 4},
		{"(define f (lambda (n) (if (< n 2) 1 (* n (f (- n 1)))))) (f 15)", 1307674368000, 40},
		{"(define x (box 0)) (define i 0) (while (< i 300) (add x i) (set! i (+ i 1))) (unbox x)", 44850, 4},
		{busy, 15, 20},
		{"(define s (lambda (l) (if (null? l) 0 (+ (car l) (s (cdr l)))))) (define u (spawn (lambda () (s '(1 2 3))))) (define v (spawn (lambda () (s '(4 5 6))))) (+ (join u) (join v))", 21, 40},
	} {
		b := newBoth(t, api.Config{Cells: row.cells, Locks: 1}, compiled(t, row.source))
		b.makes(move{toStart, 0})
		for x, _ := b.Ended(1); !x.Ended && b.Steps() < 20000; x, _ = b.Ended(1) {
			b.makes(move{toSettle, 50})
			b.makes(move{toCollect, 0})
			b.looks()
		}
		if x, _ := b.Ended(1); x != (api.Ended{Ended: true, Word: number(row.want)}) {
			t.Errorf("%s: %+v", row.source, x)
		}
	}
}

// TestWhateverTheSchedulerDoes: with few processors and many, alone and beside goroutines that never rest.
func TestWhateverTheSchedulerDoes(t *testing.T) {
	for _, processors := range []int{1, 2, 3, 32} {
		for _, beside := range []int{0, 1, 8} {
			func() {
				defer runtime.GOMAXPROCS(runtime.GOMAXPROCS(processors))
				defer restless(beside)()
				for seed := range int64(10) {
					drawnRun(t, seed+5000, 100, newMet())
				}
			}()
		}
	}
}

// restless begins so many goroutines that never rest; what is answered ends them.
func restless(n int) func() {
	var stop atomic.Bool
	var all sync.WaitGroup
	for range n {
		all.Add(1)
		go func() {
			defer all.Done()
			for !stop.Load() {
				runtime.Gosched()
			}
		}()
	}
	return func() {
		stop.Store(true)
		all.Wait()
	}
}
