package baton_test

import (
	"math"
	"math/rand"
	"testing"

	"dapple/api"
)

// shut sees that a baton that is shut answers each call as it must, and that what can be seen is what it was.
func (d desk) shut(was sight) {
	d.Helper()
	looks := func(call string) {
		d.Helper()
		if s := was.still().differs(seen(d)); s != "" {
			d.Fatalf("behind %s: %s", call, s)
		}
	}
	looks("Close")
	for _, n := range []uint32{0, 1, 7, math.MaxUint32} {
		if e, did := d.Pick(n); did || !same(e, api.Event{}) {
			d.Fatal("Pick", n, e, did)
		}
	}
	looks("Pick")
	for _, n := range []int{math.MinInt, -1, 0, 1, 10, 1000000, 1000001, math.MaxInt} {
		if got := d.Settle(n); got != 0 {
			d.Fatal("Settle", n, got)
		}
	}
	looks("Settle")
	for _, p := range []int{math.MinInt, -1, 0, 1, 2, 300, math.MaxInt} {
		if n, e := d.Start(p); n != 0 || e != api.ErrBatonShut {
			d.Fatal("Start", p, n, e)
		}
	}
	looks("Start")
	for range 2 {
		if e := d.Collect(); e != api.ErrBatonShut {
			d.Fatal("Collect", e)
		}
	}
	looks("Collect")
	for range 2 {
		d.closes(0)
		looks("Close")
	}
}

// ends shuts a baton that has so many goroutines, and sees all that must hold behind that.
func (d desk) ends(t *testing.T, want int) {
	t.Helper()
	was := seen(d)
	have(t, want)
	d.closes(want)
	gone(t)
	d.shut(was)
	have(t, 0)
}

// TestCloseWithoutThreads: the collector's goroutine alone.
func TestCloseWithoutThreads(t *testing.T) {
	calm(t)
	newDesk(t, 4, 0, parsed(t, consing)).ends(t, 1)
	d := newDesk(t, 4, 0, parsed(t, consing))
	d.collects()
	d.ends(t, 1)
}

// TestCloseWithThreads that have gone no step, some, and all of theirs.
func TestCloseWithThreads(t *testing.T) {
	calm(t)
	for threads := range 9 {
		for steps := range 4 {
			d := newDesk(t, 8, 0, parsed(t, consing))
			d.starts(make([]int, threads)...)
			if n := d.Settle(steps * threads); n != steps*threads {
				t.Fatal(n)
			}
			d.ends(t, 1+threads)
		}
	}
}

// TestCloseWithThreadsThatWait: for a thread, for a lock, for a cell; and one that was refused and has not ended.
func TestCloseWithThreadsThatWait(t *testing.T) {
	calm(t)
	program := compiled(t, "(define u (spawn (lambda () (lock 0) (while #t (yield))))) (define v (spawn (lambda () (yield) (yield) (lock 0) 1))) (define l '()) (define h (spawn (lambda () (while #t (set! l (cons 1 l)))))) (join u)")
	d := newDesk(t, 10, 1, program)
	d.starts(0)
	d.Settle(1000)
	d.ready(2)
	if l := d.Waiting(); len(l) != 1 || l[0].Thread != 4 {
		t.Fatal(l)
	}
	d.ends(t, 5)

	d = newDesk(t, 10, 1, program)
	d.starts(0)
	d.Settle(1000)
	d.collects()
	for range 10 {
		d.till(0, api.StepAsk)
		d.goes(2)
		d.till(0, api.StepFinish)
		if len(d.Waiting()) == 0 && len(d.Free()) == 0 {
			break
		}
		d.Settle(1000)
		d.collects()
	}
	d.ready(2, 4)
	d.ends(t, 5)
	if x, e := d.Ended(4); x != (api.Ended{}) || e != api.OK {
		t.Error(x, e)
	}
}

// TestCloseWhenAllWait: two for each other, for ever.
func TestCloseWhenAllWait(t *testing.T) {
	calm(t)
	d := newDesk(t, 12, 2, compiled(t, "(define u (spawn (lambda () (lock 1) (yield) (yield) (yield) (lock 0)))) (lock 0) (yield) (yield) (yield) (lock 1)"))
	d.starts(0)
	d.Settle(1000)
	d.ready()
	if x, _ := d.Ended(1); x.Ended {
		t.Fatal(x)
	}
	d.ends(t, 3)
}

// TestCloseWithThreadsThatHaveEnded: with a word, and by errors.
func TestCloseWithThreadsThatHaveEnded(t *testing.T) {
	calm(t)
	d := newDesk(t, 30, 0, compiled(t, "(define t (spawn (lambda () (error 1)))) (define u (spawn (lambda () (cons 1 2)))) (join u) (join t)"))
	d.starts(0, 0)
	d.Settle(1000)
	d.ready()
	for _, n := range []int{1, 2} {
		if x, _ := d.Ended(n); x != (api.Ended{Ended: true, Err: api.ErrVMRaised}) {
			t.Fatal(n, x)
		}
	}
	d.ends(t, 7)
	if x, _ := d.Ended(1); x != (api.Ended{Ended: true, Err: api.ErrVMRaised}) {
		t.Error(x)
	}
}

// TestCloseInTheMidst of a cycle, behind each of its steps: also where the collector waits for a thread that it has asked.
func TestCloseInTheMidst(t *testing.T) {
	calm(t)
	program := compiled(t, "(define p (cons 1 2)) (define w (lambda () (while #t (set-car! p (cons 3 '()))))) (define t (spawn w)) (join t)")
	phases, asked := map[api.Phase]int{}, 0
	for steps := 0; ; steps++ {
		d := newDesk(t, 14, 0, program)
		d.starts(0)
		d.Settle(30)
		d.collects()
		done, last := false, api.Event{}
		for range steps {
			if last, _ = d.Pick(0); last.What == api.StepFinish {
				done = true
			}
		}
		phase, begun := d.Phase()
		phases[phase]++
		if last.What == api.StepAsk {
			asked++
		}
		d.ends(t, 3)
		if p, n := d.Phase(); p != phase || n != begun {
			t.Fatal(p, n, phase, begun)
		}
		if done {
			break
		}
	}
	if len(phases) != 4 || asked == 0 {
		t.Error(phases, asked)
	}
}

// TestCloseAnywhere: drawn batons, shut behind some calls, look as a world looks that was asked the same; whatever they are
// asked then.
func TestCloseAnywhere(t *testing.T) {
	calm(t)
	for seed := range int64(300) {
		r := rand.New(rand.NewSource(seed + 9000))
		c, program := drawn(t, r)
		b := newBoth(t, c, program)
		from := newMover(r)
		for range r.Intn(200) {
			b.makes(from.next(b.w))
		}
		b.closes(1 + b.w.Threads())
		b.shut(seen(b.w))
		for range 20 {
			a := made(b.Baton, from.next(b.w))
			if a.yes || a.n != 0 || !same(a.event, api.Event{}) || a.e != api.OK && a.e != api.ErrBatonShut {
				t.Fatalf("seed %d: %+v", seed, a)
			}
		}
		b.shut(seen(b.w))
	}
	gone(t)
}

// TestOneIsShutAlone: others go on.
func TestOneIsShutAlone(t *testing.T) {
	calm(t)
	program := compiled(t, busy)
	one, other := newDesk(t, 60, 1, program), newDesk(t, 60, 1, program)
	one.starts(0)
	other.starts(0)
	one.Settle(30)
	other.Settle(20)
	was := seen(other)
	one.closes(1 + one.Threads())
	if s := was.differs(seen(other)); s != "" {
		t.Fatal(s)
	}
	// One that has told of its end is counted a moment longer.
	if !soon(func() bool { return len(routines()) == 1+other.Threads() }) {
		t.Fatal(len(routines()), other.Threads())
	}
	for range 20 {
		other.Settle(100)
		other.Collect()
	}
	if x, _ := other.Ended(1); x != (api.Ended{Ended: true, Word: number(15)}) {
		t.Error(x)
	}
	other.ends(t, 4)
}
