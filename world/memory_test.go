package world_test

import (
	"math/rand"
	"slices"
	"sync"
	"testing"

	"dapple/api"
	"dapple/world"
)

// spoil writes over a list, and over the room behind it.
func spoil[T any](l []T, with T) {
	l = l[:cap(l)]
	for i := range l {
		l[i] = with
	}
}

// spoilAll writes over each list that a world gives out.
func spoilAll(w face) {
	spoil(w.Ready(), -7)
	spoil(w.Heap(), api.Cell{Kind: 9, Colour: 9, A: 77, B: 77})
	spoil(w.Free(), -7)
	spoil(w.Waiting(), api.Waiter{Thread: -7, Begun: -7})
	spoil(w.Roots(), 77)
	spoil(w.Globals(), 77)
	v := w.View()
	spoil(v.Cells, api.Cell{Kind: 9, Colour: 9, A: 77, B: 77})
	spoil(v.Grey, -7)
	spoil(v.Globals, 77)
	for _, l := range v.Lanes {
		spoil(l.Roots, 77)
	}
	spoil(v.Lanes, api.Lane{Scanned: true, Ended: true})
}

// TestSpoiltAllTheWay: drawn worlds, where each list that comes out is written over at once, answer as those whose lists nobody
// touches.
func TestSpoiltAllTheWay(t *testing.T) {
	t.Parallel()
	for seed := range int64(250) {
		r := rand.New(rand.NewSource(seed + 4000))
		c, code := drawnWorld(r)
		spoilt, _ := world.New(c, code)
		left, _ := world.New(c, code)
		from := newMover(r)
		for range 120 {
			x := from.next(left)
			a, b := made(spoilt, x), made(left, x)
			if !a.same(b) {
				t.Fatalf("seed %d: %v: %+v, not %+v", seed, x, a, b)
			}
			spoil(a.event.Shaded, -7)
			spoilAll(spoilt)
			if s := seen(spoilt).differs(seen(left)); s != "" {
				t.Fatalf("seed %d: behind %v: %s", seed, x, s)
			}
		}
	}
}

// TestListsShareNoMemory: no two lists that come out do, of one call or of several.
func TestListsShareNoMemory(t *testing.T) {
	for seed := range int64(60) {
		r := rand.New(rand.NewSource(seed + 4000))
		c, code := drawnWorld(r)
		w, _ := world.New(c, code)
		from := newMover(r)
		for n := range 100 {
			a := made(w, from.next(w))
			if n%10 != 0 {
				continue
			}
			kept, shaded := seen(w), slices.Clone(a.event.Shaded)
			again := seen(w)
			spoilAll(w)
			spoil(again.ready, -7)
			spoil(again.heap, api.Cell{})
			spoil(again.free, -7)
			spoil(again.waiting, api.Waiter{})
			spoil(again.roots, 0)
			spoil(again.globals, 0)
			spoil(again.view.Cells, api.Cell{})
			spoil(again.view.Grey, -7)
			spoil(again.view.Globals, 0)
			for i, l := range again.view.Lanes {
				spoil(l.Roots, 0)
				for j, other := range again.view.Lanes {
					if i < j && slices.ContainsFunc(other.Roots, func(w api.Word) bool { return w == 0 }) {
						t.Fatal("lanes share memory")
					}
				}
			}
			if s := kept.differs(seen(w)); s != "" || !slices.Equal(a.event.Shaded, shaded) {
				t.Fatalf("seed %d: %s", seed, s)
			}
		}
	}
}

// TestViewSharesNothing: within one view, too.
func TestViewSharesNothing(t *testing.T) {
	d := newDesk(t, 4, 0, 2, hoard(2), turning())
	d.starts(0, 0)
	d.Settle(6)
	v, again := d.View(), d.View()
	spoil(v.Globals, 0)
	spoil(v.Lanes[0].Roots, 0)
	if !slices.Equal(v.Lanes[1].Roots, again.Lanes[1].Roots) || !slices.Equal(v.Cells, again.Cells) {
		t.Error("one view's lists share memory")
	}
	d.changesNothing(func() { spoil(v.Lanes, api.Lane{}) })
}

// TestTwoWorlds side by side, of one code: what is done in one is nothing to the other.
func TestTwoWorlds(t *testing.T) {
	code := coded(2, hoard(3), consing())
	one, _ := world.New(api.Config{Cells: 4}, code)
	other, _ := world.New(api.Config{Cells: 4}, code)
	d, o := desk{t, one}, desk{t, other}
	o.changesNothing(func() {
		d.starts(0, 1)
		d.Settle(20)
		d.collects()
		d.skips(0, api.StepBegin)
	})
	d.changesNothing(func() {
		o.starts(1)
		o.Settle(20)
		o.collects()
		o.Settle(5)
	})
	d.phase(api.PhaseRoots, 1)
	o.phase(api.PhaseSweep, 1)
	if d.Threads() != 2 || o.Threads() != 1 {
		t.Error(d.Threads(), o.Threads())
	}
}

// TestWorldsByTurns: many drawn worlds, a move each in turn, answer as each of them alone does.
func TestWorldsByTurns(t *testing.T) {
	const worlds = 5
	for seed := range int64(30) {
		var moves [worlds][]move
		var alone [worlds][]answer
		var turns [worlds]*world.World
		for i := range worlds {
			r := rand.New(rand.NewSource(seed*worlds + int64(i)))
			c, code := drawnWorld(r)
			turns[i], _ = world.New(c, code)
			w, _ := world.New(c, code)
			from := newMover(r)
			for range 120 {
				x := from.next(w)
				moves[i], alone[i] = append(moves[i], x), append(alone[i], made(w, x))
			}
		}
		for n := range 120 {
			for i := range worlds {
				if a := made(turns[i], moves[i][n]); !a.same(alone[i][n]) {
					t.Fatalf("%v: %+v by turns, %+v alone", moves[i][n], a, alone[i][n])
				}
			}
		}
	}
}

// TestWorldsBeside: worlds that are gone through by goroutines, one each, of one code, come to what they come to.
func TestWorldsBeside(t *testing.T) {
	code := drawnCode(rand.New(rand.NewSource(3)), 2, 30, 0)
	run := func(seed int64) sight {
		r := rand.New(rand.NewSource(seed))
		w, _ := world.New(api.Config{Cells: 30, Locks: 2}, code)
		from := newMover(r)
		for range 400 {
			made(w, from.next(w))
		}
		return seen(w)
	}
	var wait sync.WaitGroup
	got := make([]sight, 16)
	for i := range got {
		wait.Add(1)
		go func() {
			defer wait.Done()
			got[i] = run(int64(i))
		}()
	}
	wait.Wait()
	for i, s := range got {
		if x := s.differs(run(int64(i))); x != "" {
			t.Error(i, x)
		}
	}
}

// TestRefusedCallsChangeNothing: in drawn states.
func TestRefusedCallsChangeNothing(t *testing.T) {
	for seed := range int64(100) {
		r := rand.New(rand.NewSource(seed))
		c, code := drawnWorld(r)
		w, _ := world.New(c, code)
		d := desk{t, w}
		from := newMover(r)
		for range 60 {
			made(w, from.next(w))
			d.changesNothing(func() {
				for _, p := range []int{-1, firstFunc, len(code.Procs)} {
					if n, e := w.Start(p); n != 0 || e != api.ErrArg {
						t.Fatal(p, n, e)
					}
				}
				if w.Threads() == api.MaxThreads {
					if n, e := w.Start(mainProc); n != 0 || e != api.ErrLocksMuch {
						t.Fatal(n, e)
					}
				}
				if phase, _ := w.Phase(); phase != api.PhaseIdle && w.Collect() != api.ErrBusy {
					t.Fatal("Collect")
				}
				if x, e := w.Ended(w.Threads() + 1); x != (api.Ended{}) || e != api.ErrWorldThread {
					t.Fatal(x, e)
				}
			})
		}
	}
}
