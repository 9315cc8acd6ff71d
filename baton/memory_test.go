package baton_test

import (
	"math/rand"
	"slices"
	"testing"

	"dapple/api"
)

// spoil writes over a list, and over the room behind it.
func spoil[T any](l []T, with T) {
	l = l[:cap(l)]
	for i := range l {
		l[i] = with
	}
}

// spoil writes over each list of a sight.
func (s sight) spoil() {
	spoil(s.ready, -7)
	spoil(s.heap, api.Cell{Kind: 9, Colour: 9, A: 77, B: 77})
	spoil(s.free, -7)
	spoil(s.waiting, api.Waiter{Thread: -7, Begun: -7})
	spoil(s.roots, 77)
	spoil(s.globals, 77)
	spoil(s.view.Cells, api.Cell{Kind: 9, Colour: 9, A: 77, B: 77})
	spoil(s.view.Grey, -7)
	spoil(s.view.Globals, 77)
	for _, l := range s.view.Lanes {
		spoil(l.Roots, 77)
	}
	spoil(s.view.Lanes, api.Lane{Scanned: true, Ended: true})
}

// TestSpoiltAllTheWay: batons of which each list that comes out is written over at once answer as worlds whose lists nobody
// touches; also when they are shut.
func TestSpoiltAllTheWay(t *testing.T) {
	t.Parallel()
	for seed := range int64(150) {
		r := rand.New(rand.NewSource(seed + 4000))
		c, program := drawn(t, r)
		b := newBoth(t, c, program)
		from := newMover(r)
		for range 120 {
			x := from.next(b.w)
			got, want := made(b.Baton, x), made(b.w, x)
			if !got.same(want) {
				t.Fatalf("seed %d: %v: %+v, not %+v", seed, x, got, want)
			}
			spoil(got.event.Shaded, -7)
			seen(b.Baton).spoil()
			b.looks()
		}
		b.Close()
		for range 2 {
			seen(b.Baton).spoil()
			if s := seen(b.w).still().differs(seen(b.Baton)); s != "" {
				t.Fatalf("seed %d: %s", seed, s)
			}
		}
	}
}

// TestListsShareNoMemory: no two lists that come out do, of one call or of several: what was told stays, whatever is written
// into what is told then, and whatever steps are gone.
func TestListsShareNoMemory(t *testing.T) {
	t.Parallel()
	for seed := range int64(60) {
		r := rand.New(rand.NewSource(seed + 4500))
		c, program := drawn(t, r)
		b := newBoth(t, c, program)
		from := newMover(r)
		var events []api.Event
		var copies [][]int
		for range 20 {
			kept, plain := seen(b.Baton), seen(b.w)
			for range 8 {
				a := b.makes(from.next(b.w))
				events, copies = append(events, a.event), append(copies, slices.Clone(a.event.Shaded))
			}
			seen(b.Baton).spoil()
			if s := kept.differs(plain); s != "" {
				t.Fatalf("seed %d: %s", seed, s)
			}
		}
		b.Close()
		for i, e := range events {
			if !slices.Equal(e.Shaded, copies[i]) {
				t.Fatalf("seed %d: event %d: %v, not %v", seed, i, e.Shaded, copies[i])
			}
		}
	}
}

// TestOneViewSharesNothing: nor do two lists of one answer.
func TestOneViewSharesNothing(t *testing.T) {
	d := newDesk(t, 40, 1, compiled(t, busy))
	d.starts(0, 0)
	d.Settle(60)
	d.collects()
	d.Settle(20)
	again := d.View()
	for i := range again.Lanes {
		v := d.View()
		spoil(v.Lanes[i].Roots, 77)
		for j := range again.Lanes {
			if j != i && !slices.Equal(v.Lanes[j].Roots, again.Lanes[j].Roots) {
				t.Error("roots share memory")
			}
		}
		if !slices.Equal(v.Globals, again.Globals) || !slices.Equal(v.Cells, again.Cells) || !slices.Equal(v.Grey, again.Grey) {
			t.Error("a view's lists share memory")
		}
	}
}
