package par_test

import (
	"runtime"
	"slices"
	"sync"
	"sync/atomic"
	"testing"
	"time"

	"dapple/api"
	"dapple/par"
)

// pairs are so many pairs of nil and a number.
func pairs(n int) []api.Cell { return slices.Repeat(heapOf("n 1"), n) }

// chain is a heap of which each cell names the next one, by A or by B, and the last one nothing.
func chain(n int, byB bool) []api.Cell {
	h := pairs(n)
	for i := range n - 1 {
		if byB {
			h[i].B = ref(i + 1)
		} else {
			h[i].A = ref(i + 1)
		}
	}
	return h
}

// tree is a heap of which each cell names two others, while there are any.
func tree(n int) []api.Cell {
	h := pairs(n)
	for i := 0; 2*i+2 < n; i++ {
		h[i].A, h[i].B = ref(2*i+1), ref(2*i+2)
	}
	return h
}

// whole holds that all cells from one on are live, and those ahead of it freed.
func whole(t *testing.T, h []api.Cell, workers, from int, roots ...api.Word) {
	t.Helper()
	live := make([]bool, len(h))
	for i := from; i < len(h); i++ {
		live[i] = true
	}
	marksBy(t, h, workers, roots, live)
	heap, freed := plainSwept(h, live)
	collectsBy(t, h, workers, roots, len(h)-from, heap, freed)
}

// greatly are numbers of workers for great heaps.
func greatly() []int { return []int{1, 2, 3, 8, 16} }

// TestLongRows: as long as anything may be nested, and longer; each call returns.
func TestLongRows(t *testing.T) {
	for _, n := range []int{api.MaxCells, 65536, 200000} {
		for _, workers := range greatly() {
			whole(t, chain(n, workers%2 == 0), workers, 0, ref(0))
			whole(t, chain(n, workers%2 == 0), workers, n/3, ref(n/3))
			whole(t, chain(n, workers%2 == 0), workers, n-1, ref(n-1))
		}
	}
}

// TestLongRing: the last cell names the first one.
func TestLongRing(t *testing.T) {
	h := chain(100000, false)
	h[len(h)-1].A = ref(0)
	for _, workers := range greatly() {
		whole(t, h, workers, 0, ref(70000), ref(5), wordOf("n"))
		whole(t, h, workers, len(h))
	}
}

// TestWide: a tree, whose rows grow; and as many roots as cells, and more.
func TestWide(t *testing.T) {
	great := tree(131071)
	flat := pairs(100000)
	roots := make([]api.Word, 0, 300000)
	for i := range cap(roots) {
		roots = append(roots, ref(1+(i*7)%(len(flat)-1)))
	}
	for _, workers := range greatly() {
		whole(t, great, workers, 0, ref(0))
		whole(t, great, workers, len(great))
		whole(t, flat, workers, 1, roots...)
	}
}

// TestAllNameOne: very many meet one and the same cell at one time: one of them wins it.
func TestAllNameOne(t *testing.T) {
	h := tree(8191)
	for i := 4095; i < len(h)-1; i++ {
		h[i].A, h[i].B = ref(len(h)-1), ref(i&^7)
	}
	for range 20 {
		eachMany(func(workers int) {
			marksBy(t, h, workers, wordsOf("r0 r1 r2 r2 r1 r0"), slices.Repeat([]bool{true}, len(h)))
		})
	}
}

// TestLadders: cells that are reached on as many ways as no call could try.
func TestLadders(t *testing.T) {
	h := pairs(20000)
	for i := range h {
		if next := i/2*2 + 2; next < len(h) {
			h[i].A, h[i].B = ref(next+1), ref(next)
		}
	}
	for _, workers := range greatly() {
		for range 5 {
			whole(t, h, workers, 0, ref(1), ref(0))
			whole(t, h, workers, 10000, ref(10001), ref(10000))
		}
	}
}

// TestSweptWherever: a live cell, a dead one, a free one, wherever they stand in a great heap.
func TestSweptWherever(t *testing.T) {
	const n = 1000
	for at := range n {
		h := pairs(n)
		h[(at+1)%n] = api.Cell{Colour: api.Black, A: 7}
		live := slices.Repeat([]bool{at%2 == 0}, n)
		live[at], live[(at+1)%n] = at%2 == 1, false
		heap, freed := plainSwept(h, live)
		sweepsBy(t, h, live, 1+at%16, heap, freed)
	}
}

// leftTo waits till no more than so many goroutines are there: one that has done its work may be seen for a moment behind that.
func leftTo(t *testing.T, most int) {
	t.Helper()
	end := time.Now().Add(20 * time.Second)
	for runtime.NumGoroutine() > most {
		if time.Now().After(end) {
			t.Fatalf("%d goroutines are left, not %d", runtime.NumGoroutine(), most)
		}
		time.Sleep(time.Millisecond)
	}
}

// TestNoGoroutineIsLeft: behind each call, also one that is refused, or finds nothing to do.
func TestNoGoroutineIsLeft(t *testing.T) {
	before := runtime.NumGoroutine()
	great, small := tree(5000), heapOf(example)
	for range 5 {
		eachMany(func(workers int) {
			par.Mark(great, workers, ref(0))
			par.Mark(great, workers, ref(4999), ref(4999))
			par.Mark(small, workers)
			par.Mark(small, workers, ref(9))
			par.Mark(nil, workers)
			leftTo(t, before)
			par.Sweep(great, make([]bool, len(great)), workers)
			par.Sweep(small, truths("1010"), workers)
			par.Sweep(small, truths("1011"), workers)
			par.Sweep(nil, nil, workers)
			leftTo(t, before)
			par.Collect(great, workers, ref(1))
			par.Collect(small, workers+16)
			par.Collect(nil, workers)
			leftTo(t, before)
		})
	}
}

// TestOnOneProcessor: workers that never run at one time come to the same, and each call returns.
func TestOnOneProcessor(t *testing.T) {
	defer runtime.GOMAXPROCS(runtime.GOMAXPROCS(1))
	for _, workers := range greatly() {
		whole(t, chain(20000, false), workers, 0, ref(0))
		whole(t, tree(32767), workers, 0, ref(0))
		whole(t, tree(32767), workers, 32767)
	}
}

// TestAtOneTime: many goroutines mark, sweep and collect one heap at one time, each by workers of its own, while others read it (R7).
func TestAtOneTime(t *testing.T) {
	h, roots := tree(2047), wordsOf("r1 r1 n r5")
	h[0] = api.Cell{}
	live := reachedAndUsed(t, h, roots)
	heap, freed := plainSwept(h, live)
	kept := slices.Clone(h)
	var calls, readers sync.WaitGroup
	var ends atomic.Bool
	for range 4 {
		readers.Go(func() {
			for !ends.Load() {
				if !slices.Equal(h, kept) || !slices.Equal(roots, wordsOf("r1 r1 n r5")) || count(live) == 0 {
					t.Error("what was handed in is changed")
					return
				}
			}
		})
	}
	for i := range 8 {
		calls.Go(func() {
			for range 30 {
				l, s, e := par.Mark(h, 1+i, roots...)
				if e != api.OK || !slices.Equal(l, live) || s != (api.Sums{Greyed: count(live), Scanned: count(live)}) {
					t.Errorf("Mark: %+v, %d", s, e)
				}
				x, f, s, e := par.Sweep(h, live, 16-i)
				if e != api.OK || !slices.Equal(x, heap) || !slices.Equal(f, freed) || s != (api.Sums{Freed: len(freed)}) {
					t.Errorf("Sweep: %+v, %d", s, e)
				}
				x, f, s, e = par.Collect(h, 2*i+1, roots...)
				if e != api.OK || !slices.Equal(x, heap) || !slices.Equal(f, freed) || s != (api.Sums{Greyed: count(live), Scanned: count(live), Freed: len(freed)}) {
					t.Errorf("Collect: %+v, %d", s, e)
				}
			}
		})
	}
	calls.Wait()
	ends.Store(true)
	readers.Wait()
}
