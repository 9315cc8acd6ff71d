package shake_test

import (
	"math/rand"
	"sync"
	"testing"

	"dapple/api"
	"dapple/shake"
)

// TestAskingToldNothing: Asked, Scanned and Left change nothing, however often they are called, and whatever of.
func TestAskingToldNothing(t *testing.T) {
	d := begun(t, 3)
	d.asks(2)
	d.lays(1)
	for range 100 {
		d.scanned(1)
		d.asked(2)
		d.left(2)
	}
	d.lays(2, 3)
	d.ends()
	for range 100 {
		d.scanned(1, 2, 3)
		d.asked()
		d.left(0)
	}
	d.begins()
}

// TestTwoInTurns: two of them know nothing of one another (R4).
func TestTwoInTurns(t *testing.T) {
	d, o := newDesk(t, 0), newDesk(t, 0)
	d.born(0, 1)
	d.born(0, 2)
	o.scanned()
	o.bearsNone(api.ErrShakeForm, 1)
	o.born(0, 1)
	d.begins()
	o.mayNotEnd()
	o.scanned(1)
	o.left(0)
	o.mayNotLay(1)
	o.begins()
	d.asks(1)
	o.asked()
	o.lays(1)
	d.scanned()
	d.asked(1)
	d.left(1)
	o.ends()
	d.mayNotBegin()
	d.mayNotEnd()
	o.born(1, 2)
	d.born(1, 3)
	o.scanned(1, 2)
	d.scanned()
	o.begins()
	d.lays(3, 2, 1)
	o.left(1)
	d.ends()
	o.mayNotEnd()
}

// TestManyInDrawnTurns: eight of them, one of which is called at each turn.
func TestManyInDrawnTurns(t *testing.T) {
	r := rand.New(rand.NewSource(144))
	for range 20 {
		var all []*shake.Shake
		plains := make([]plain, 8)
		for range 8 {
			all = append(all, shake.New())
		}
		for range 500 {
			i := r.Intn(8)
			c := drawnCall(r, plains[i])
			if is, want := made(all[i], c), plains[i].answers(c); is != want {
				t.Fatalf("%v, %v: %v, not %v", plains[i], c, is, want)
			}
			plains[i] = plains[i].behind(c)
			j := r.Intn(8)
			stands(t, all[j], plains[j])
		}
	}
}

// TestEachNewIsAnother: one that is new is without threads, out of a cycle, whatever became of others.
func TestEachNewIsAnother(t *testing.T) {
	var all []*shake.Shake
	for range 100 {
		d := newDesk(t, 0)
		d.left(0)
		d.mayNotEnd()
		d.bearsNone(api.ErrShakeForm, noParents(0)...)
		d.born(0, 1)
		d.begins()
		d.asks(1)
		for _, s := range all {
			if s == d.s {
				t.Fatal("it is no other one")
			}
		}
		all = append(all, d.s)
	}
}

// TestEachOfOneGoroutine: many goroutines at one time, each with its own, are answered as if each were alone.
func TestEachOfOneGoroutine(t *testing.T) {
	var all sync.WaitGroup
	for seed := range 8 {
		all.Go(func() {
			r := rand.New(rand.NewSource(int64(seed % 2)))
			for range 20 {
				s := shake.New()
				var p plain
				for _, c := range drawnRow(r, 150) {
					is, want := made(s, c), p.answers(c)
					p = p.behind(c)
					if is != want || s.Left() != p.left() {
						t.Errorf("%v: %v, not %v", c, is, want)
						return
					}
				}
			}
		})
	}
	all.Wait()
}
