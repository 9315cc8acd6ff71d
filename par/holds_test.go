package par_test

import (
	"fmt"
	"math/rand"
	"slices"
	"testing"

	"dapple/api"
	"dapple/graph"
	"dapple/par"
)

// eachDrawn hands on drawn heaps that may be, small and greater ones, with roots.
func eachDrawn(seed int64, do func(r *rand.Rand, h []api.Cell, roots []api.Word)) {
	r := rand.New(rand.NewSource(seed))
	for i := range 300 {
		cells := r.Intn(12)
		if i%10 == 0 {
			cells = 100 + r.Intn(400)
		}
		do(r, drawnHeap(r, cells), drawnRoots(r, cells))
	}
}

// reachedAndUsed are graph.Reach's that are not free.
func reachedAndUsed(t *testing.T, h []api.Cell, roots []api.Word) []bool {
	t.Helper()
	out, e := graph.Reach(h, roots...)
	if e != api.OK {
		t.Fatalf("%s: %d", told(h, roots), e)
	}
	for i, c := range h {
		out[i] = out[i] && c.Kind != api.KindFree
	}
	return out
}

// used are how many cells are not free.
func used(h []api.Cell) int {
	n := 0
	for _, c := range h {
		if c.Kind != api.KindFree {
			n++
		}
	}
	return n
}

// TestLiveIsReach: Mark's live ones are graph.Reach's that are not free, Greyed and Scanned are how many, by every number of workers, again and again.
func TestLiveIsReach(t *testing.T) {
	most := 0
	eachDrawn(232, func(r *rand.Rand, h []api.Cell, roots []api.Word) {
		want := reachedAndUsed(t, h, roots)
		most = max(most, count(want))
		eachMany(func(workers int) {
			for range 3 {
				marksBy(t, h, workers, roots, want)
			}
		})
	})
	if most < 100 {
		t.Errorf("at most %d were live", most)
	}
}

// TestJustTheLiveStay: behind Collect just the live cells are not free; Greyed and Freed together are how many were not.
func TestJustTheLiveStay(t *testing.T) {
	eachDrawn(233, func(r *rand.Rand, h []api.Cell, roots []api.Word) {
		want := reachedAndUsed(t, h, roots)
		eachMany(func(workers int) {
			heap, freed, s, e := par.Collect(h, workers, roots...)
			if e != api.OK || len(heap) != len(h) {
				t.Fatalf("%s: %d cells, %d", told(h, roots), len(heap), e)
			}
			for i, c := range heap {
				if (c.Kind != api.KindFree) != want[i] {
					t.Fatalf("%s: the cell %d: %v", told(h, roots), i, c)
				}
				_, isFreed := slices.BinarySearch(freed, i)
				if isFreed != (h[i].Kind != api.KindFree && !want[i]) {
					t.Fatalf("%s: the cell %d is freed: %v", told(h, roots), i, isFreed)
				}
			}
			if s.Greyed+s.Freed != used(h) || s.Freed != len(freed) || s.Scanned != s.Greyed {
				t.Fatalf("%s: %+v", told(h, roots), s)
			}
		})
	})
}

// TestSecondCollect: with the same roots it frees none, and leaves the heap as it is.
func TestSecondCollect(t *testing.T) {
	eachDrawn(234, func(r *rand.Rand, h []api.Cell, roots []api.Word) {
		eachMany(func(workers int) {
			once, _, s, e := par.Collect(h, workers, roots...)
			if e != api.OK {
				t.Fatalf("%s: %d", told(h, roots), e)
			}
			collectsBy(t, once, 1+r.Intn(16), roots, s.Greyed, once, nil)
		})
	})
}

// TestFormStays: what the roots reach looks as it did, but that it is white; what they reach is what they did.
func TestFormStays(t *testing.T) {
	eachDrawn(235, func(r *rand.Rand, h []api.Cell, roots []api.Word) {
		want, wantRoots, e := graph.Form(h, roots...)
		if e != api.OK {
			t.Fatalf("%s: %d", told(h, roots), e)
		}
		eachMany(func(workers int) {
			heap, _, _, _ := par.Collect(h, workers, roots...)
			got, gotRoots, e := graph.Form(heap, roots...)
			if e != api.OK || !slices.Equal(got, want) || !slices.Equal(gotRoots, wantRoots) {
				t.Fatalf("%s: %s, %d, not %s", told(h, roots), told(got, gotRoots), e, told(want, wantRoots))
			}
		})
	})
}

// TestEachCellBehind: each cell behind Collect and Sweep: its kind and words, or noughts; each white; what is freed, rising.
func TestEachCellBehind(t *testing.T) {
	eachDrawn(236, func(r *rand.Rand, h []api.Cell, roots []api.Word) {
		workers := 1 + r.Intn(16)
		live, _, _ := par.Mark(h, workers, roots...)
		heap, freed, _, e := par.Sweep(h, live, workers)
		if e != api.OK || !slices.IsSorted(freed) || len(slices.Compact(slices.Clone(freed))) != len(freed) {
			t.Fatalf("%s: %v, %d", told(h, roots), freed, e)
		}
		for i, c := range heap {
			want := api.Cell{}
			if live[i] {
				want = api.Cell{Kind: h[i].Kind, Colour: api.White, A: h[i].A, B: h[i].B}
			}
			if c != want {
				t.Fatalf("%s: the cell %d: %v, not %v", told(h, roots), i, c, want)
			}
		}
		if e, at := graph.Check(heap); e != api.OK {
			t.Fatalf("%s: behind it %d at %d", told(h, roots), e, at)
		}
	})
}

// TestCollectIsBoth: what Sweep makes of what Mark tells, and the sums of both together.
func TestCollectIsBoth(t *testing.T) {
	eachDrawn(237, func(r *rand.Rand, h []api.Cell, roots []api.Word) {
		live, marked, _ := par.Mark(h, 1+r.Intn(16), roots...)
		heap, freed, swept, _ := par.Sweep(h, live, 1+r.Intn(16))
		got, l, s, e := par.Collect(h, 1+r.Intn(16), roots...)
		both := api.Sums{Greyed: marked.Greyed + swept.Greyed, Scanned: marked.Scanned + swept.Scanned, Freed: marked.Freed + swept.Freed}
		if e != api.OK || !slices.Equal(got, heap) || !slices.Equal(l, freed) || s != both {
			t.Fatalf("%s: %v, %+v, %d, not %v, %+v", told(h, roots), l, s, e, freed, both)
		}
	})
}

// TestRootsInAnyOrder: neither their order nor how often one stands there is told.
func TestRootsInAnyOrder(t *testing.T) {
	eachDrawn(238, func(r *rand.Rand, h []api.Cell, roots []api.Word) {
		want := reachedAndUsed(t, h, roots)
		heap, freed := plainSwept(h, want)
		more := append(slices.Clone(roots), roots...)
		r.Shuffle(len(more), func(i, j int) { more[i], more[j] = more[j], more[i] })
		workers := 1 + r.Intn(16)
		marksBy(t, h, workers, more, want)
		collectsBy(t, h, workers, more, count(want), heap, freed)
	})
}

// TestRenumbered: a heap with its cells numbered otherwise keeps the same, numbered otherwise (T7: whoever comes first, nothing hangs on it).
func TestRenumbered(t *testing.T) {
	eachDrawn(239, func(r *rand.Rand, h []api.Cell, roots []api.Word) {
		to := r.Perm(len(h))
		moved := func(w api.Word) api.Word {
			if w%16 == 8 && plainWord(w, len(h)) {
				return ref(to[w>>4])
			}
			return w
		}
		other := make([]api.Cell, len(h))
		for i, c := range h {
			other[to[i]] = api.Cell{Kind: c.Kind, Colour: c.Colour, A: moved(c.A), B: moved(c.B)}
		}
		var own []api.Word
		for _, w := range roots {
			own = append(own, moved(w))
		}
		live := reachedAndUsed(t, h, roots)
		want := make([]bool, len(h))
		for i, is := range live {
			want[to[i]] = is
		}
		marksBy(t, other, 1+r.Intn(16), own, want)
	})
}

// answers are all that the calls answer.
func answers(h []api.Cell, live []bool, workers int, roots []api.Word) string {
	l, s, e := par.Mark(h, workers, roots...)
	x, f, s2, e2 := par.Sweep(h, live, workers)
	y, g, s3, e3 := par.Collect(h, workers, roots...)
	return fmt.Sprint(l, s, e, x, f, s2, e2, y, g, s3, e3)
}

// TestToldTheSame: a heap is told the same by 1 to 16 workers, many times over.
func TestToldTheSame(t *testing.T) {
	r := rand.New(rand.NewSource(240))
	for _, cells := range []int{0, 1, 2, 5, 40, 63, 64, 65, 128, 300} {
		h := drawnHeap(r, cells)
		roots := append(drawnRoots(r, cells), drawnRoots(r, cells)...)
		live := reachedAndUsed(t, h, roots)
		want := answers(h, live, 1, roots)
		eachMany(func(workers int) {
			for range 20 {
				if got := answers(h, live, workers, roots); got != want {
					t.Fatalf("%s by %d: %s, not %s", told(h, roots), workers, got, want)
				}
			}
		})
	}
}
