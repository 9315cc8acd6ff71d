package baton_test

import (
	"fmt"
	"os"
	"runtime"
	"slices"
	"strings"
	"sync/atomic"
	"testing"
	"time"

	"dapple/api"
)

// TestMain sees that no goroutine of a baton is left when all are shut.
func TestMain(m *testing.M) {
	code := m.Run()
	if !soon(func() bool { return len(routines()) == 0 }) {
		fmt.Println("goroutines are left:", routines())
		code = 1
	}
	os.Exit(code)
}

// routine is a goroutine that a baton has begun.
type routine struct{ id, state, stack string }

// stacks are those of all goroutines.
func stacks() []routine {
	text := make([]byte, 1<<16)
	n := runtime.Stack(text, true)
	for ; n == len(text); n = runtime.Stack(text, true) {
		text = make([]byte, 2*len(text))
	}
	var out []routine
	for _, s := range strings.Split(string(text[:n]), "\n\n") {
		head, stack, _ := strings.Cut(s, "\n")
		id, state, _ := strings.Cut(strings.TrimPrefix(head, "goroutine "), " ")
		out = append(out, routine{id, state, stack})
	}
	return out
}

// routines are those that batons have begun.
func routines() []routine {
	return slices.DeleteFunc(stacks(), func(r routine) bool { return !strings.Contains(r.stack, "created by dapple/baton.") })
}

// isActing tells whether a goroutine is one that has not ended its work.
func (r routine) isActing() bool { return strings.Contains(r.stack, "dapple/baton.act(") }

// isWaiting tells whether it waits till something is handed to it.
func (r routine) isWaiting() bool { return strings.HasPrefix(r.state, "[chan receive") }

// goesStep tells whether it is within a world's step.
func (r routine) goesStep() bool { return strings.Contains(r.stack, "dapple/world.(*World).Pick(") }

// soon tells whether something holds, now or in a while: a goroutine that has told of its end is counted a moment longer.
func soon(holds func() bool) bool {
	for range 5000 {
		if holds() {
			return true
		}
		time.Sleep(time.Millisecond)
	}
	return false
}

// calm waits till no baton of earlier tests has a goroutine.
func calm(t *testing.T) {
	t.Helper()
	if !soon(func() bool { return len(routines()) == 0 }) {
		t.Fatal("goroutines are left:", routines())
	}
}

// have sees how many goroutines there are now.
func have(t *testing.T, want int) {
	t.Helper()
	if l := routines(); len(l) != want {
		t.Fatalf("%d goroutines, not %d: %v", len(l), want, l)
	}
}

// gone sees that all goroutines have ended: none is at its work, and in a moment none is counted.
func gone(t *testing.T) {
	t.Helper()
	if slices.ContainsFunc(routines(), routine.isActing) {
		t.Fatal("a goroutine goes on behind Close")
	}
	calm(t)
}

// TestGoroutines: one for the collector from New on, one for each thread from the moment at which that is there; whoever ends
// keeps its own, and Close ends all.
func TestGoroutines(t *testing.T) {
	calm(t)
	d := newDesk(t, 20, 0, compiled(t, "(define t (spawn (lambda () (yield) 5))) (join t)"))
	have(t, 1)
	d.Start(-1)
	d.Collect()
	d.Pick(0)
	have(t, 1)
	d.starts(0)
	have(t, 2)
	for e := d.goes(1); e.What != api.StepSpawn; e = d.goes(1) {
		have(t, 2)
	}
	have(t, 3)
	d.till(2, api.StepEnd)
	have(t, 3)
	d.Settle(1000)
	if x, _ := d.Ended(1); x != (api.Ended{Ended: true, Word: number(5)}) {
		t.Fatal(x)
	}
	d.ready()
	have(t, 3)
	d.starts(0)
	have(t, 4)
	d.Settle(1000)
	have(t, 5)
	d.closes(5)
	gone(t)
}

// TestSpawnsOfOneSettle: each thread has its goroutine when the call answers.
func TestSpawnsOfOneSettle(t *testing.T) {
	calm(t)
	d := newDesk(t, 40, 0, compiled(t, "(define w (lambda () (yield))) (spawn w) (spawn w) (spawn w) (spawn w) (spawn w) (spawn w) (spawn w)"))
	d.starts(0)
	for d.Settle(3) > 0 {
		have(t, 1+d.Threads())
	}
	have(t, 9)
	d.closes(9)
	gone(t)
}

// TestNoNinthThread: who is refused a thread has no goroutine, by Start as by a StepSpawn.
func TestNoNinthThread(t *testing.T) {
	calm(t)
	d := newDesk(t, 20, 0, compiled(t, "(spawn (lambda () 1))"))
	d.starts(0, 0, 0, 0, 0, 0, 0, 0)
	have(t, 9)
	if n, e := d.Start(0); n != 0 || e != api.ErrLocksMuch {
		t.Error(n, e)
	}
	have(t, 9)
	if e := d.till(3, api.StepSpawn); e.Err != api.ErrLocksMuch {
		t.Error(e)
	}
	have(t, 9)
	d.closes(9)
	gone(t)
}

// TestNoneByARefusedNew: who is not made has no goroutine.
func TestNoneByARefusedNew(t *testing.T) {
	calm(t)
	refusesNew(t, api.Config{Cells: 3}, parsed(t, consing), api.ErrArg)
	refusesNew(t, api.Config{Cells: 4, Locks: 9}, parsed(t, consing), api.ErrArg)
	refusesNew(t, api.Config{Cells: 4}, api.Code{}, api.ErrCodeForm)
	have(t, 0)
}

// TestAllWaitBetweenSteps: whatever was asked, behind it all goroutines wait, and nothing is done.
func TestAllWaitBetweenSteps(t *testing.T) {
	calm(t)
	d := newDesk(t, 12, 1, compiled(t, "(define u (spawn (lambda () (lock 0) (while #t (cons 1 2))))) (define v (spawn (lambda () (yield) (lock 0)))) (join u)"))
	waits := func() {
		t.Helper()
		have(t, 1+d.Threads())
		idle := func() bool {
			return !slices.ContainsFunc(routines(), func(r routine) bool { return !r.isWaiting() || r.goesStep() })
		}
		if !soon(idle) {
			t.Fatal("somebody does not wait:", routines())
		}
		was := seen(d)
		time.Sleep(time.Millisecond)
		if s := was.differs(seen(d)); s != "" || !idle() {
			t.Fatal("something is done between steps: ", s)
		}
	}
	waits()
	d.starts(0)
	waits()
	for n := range 60 {
		d.Pick(uint32(n))
		if n%20 == 0 {
			d.Collect()
		}
		waits()
	}
	d.Settle(100)
	waits()
	d.closes(4)
	gone(t)
}

// goneBy looks at all goroutines while a baton's actors go steps, till it has met many steps: each of them was gone by the
// goroutine of that id.
func goneBy(t *testing.T, id string, steps func()) {
	t.Helper()
	var stop atomic.Bool
	ended := make(chan bool)
	go func() {
		defer close(ended)
		for !stop.Load() {
			steps()
		}
	}()
	met, other := 0, ""
	for range 20000 {
		for _, r := range stacks() {
			switch {
			case r.goesStep() && r.id == id:
				met++
			case r.goesStep():
				other = r.stack
			}
		}
		if met >= 20 || other != "" {
			break
		}
	}
	stop.Store(true)
	<-ended
	if met < 20 || other != "" {
		t.Errorf("%d steps were met; one by another goroutine:\n%s", met, other)
	}
}

// TestEachByItsOwn: a step is gone by the goroutine of that actor: the collector's, that of a thread of Start, that of one that
// was spawned.
func TestEachByItsOwn(t *testing.T) {
	for _, row := range []struct {
		source string
		starts []int
		actor  int // who alone can go a step in the end
	}{
		{"1", []int{0, 0}, 0},
		{"(while #t (yield))", []int{0}, 1},
		{"(define w (lambda () (while #t (yield))))", []int{0, 0, 1, 0}, 3},
		{"(spawn (lambda () (while #t (yield))))", []int{0}, 2},
	} {
		calm(t)
		d := newDesk(t, 4096, 0, compiled(t, row.source))
		var ids []string // by actors
		note := func() {
			t.Helper()
			l := slices.DeleteFunc(routines(), func(r routine) bool { return slices.Contains(ids, r.id) })
			for _, r := range l {
				ids = append(ids, r.id)
			}
			if len(ids) != 1+d.Threads() {
				t.Fatal(ids)
			}
		}
		note()
		for _, p := range row.starts {
			d.starts(p)
			note()
		}
		d.Settle(100)
		note()
		goneBy(t, ids[row.actor], func() {
			if row.actor == 0 {
				d.Collect()
			}
			d.Settle(100)
			for n := range 100 {
				d.Pick(uint32(n))
			}
		})
		d.closes(len(ids))
		gone(t)
	}
}
