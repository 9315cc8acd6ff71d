package sweep_test

import (
	"math/rand"
	"runtime"
	"slices"
	"sync"
	"sync/atomic"
	"testing"

	"dapple/api"
	"dapple/cells"
	"dapple/sweep"
)

// TestTwoHeapsInTurns: sweepers of two heaps know nothing of one another (R4).
func TestTwoHeapsInTurns(t *testing.T) {
	d, o := newDesk(t, "wbw."), newDesk(t, "bgwbw")
	d.begins()
	o.tells(5, 0)
	o.refused()
	d.step(0, true)
	o.begins()
	d.tells(1, 1)
	o.step(0, false)
	o.refused()
	d.steps(1, "bw")
	o.tells(1, 0)
	o.letters("wgwbw")
	d.begins()
	o.turn(1, 'b')
	o.steps(1, "bw")
	d.tells(0, 0)
	d.letters(".w..")
	d.steps(0, ".w..")
	d.refused()
	o.steps(3, "bw")
	o.refused()
	d.tells(4, 1)
	o.tells(5, 2)
	d.letters("....")
	o.letters("ww.w.")
}

// TestTwoOfOneHeap: each counts what it has swept and freed itself; what one has freed is free for the other one, what one has whitened is white.
func TestTwoOfOneHeap(t *testing.T) {
	d := newDesk(t, "wbwbg")
	o := desk{t, d.h, sweep.New(d.h)}
	o.tells(5, 0)
	d.begins()
	o.refused()
	d.steps(0, "wb")
	o.begins()
	d.tells(2, 1)
	o.step(0, false)
	o.step(1, true)
	o.step(2, true)
	d.tells(2, 1)
	d.step(2, false)
	d.step(3, false)
	o.step(3, true)
	d.refused()
	o.refused()
	d.turn(4, 'b')
	o.step(4, false)
	d.step(4, true)
	d.tells(5, 2)
	o.tells(5, 3)
	d.letters(".....")
	d.refused()
	o.refused()
}

// TestManyOfOneHeapInDrawnTurns: three sweepers of one heap, beside what others do: each is answered by the cells as they stand, and by its own numbers.
func TestManyOfOneHeapInDrawnTurns(t *testing.T) {
	r := rand.New(rand.NewSource(168))
	for range 500 {
		many := 4 + r.Intn(8)
		h := heapWith(drawnCells(r, many, "..wwbbg"))
		var all [3]*sweep.Sweeper
		var plains [3]plain
		for i := range all {
			all[i], plains[i] = sweep.New(h), plain{h.Snapshot(), many, 0}
		}
		for range 12 * many {
			i, c := r.Intn(3), drawnCall(r, many)
			next, want := plainMade(plains[i], c)
			if got := made(h, all[i], c); got != want {
				t.Fatalf("%v: %s, not %s", c, got, want)
			}
			plains[i] = next
			for j := range all {
				plains[j].cells = next.cells
				stands(t, h, all[j], plains[j], nil)
			}
		}
	}
}

// TestManyInDrawnTurns: eight sweepers of eight heaps, one of which is called at each turn.
func TestManyInDrawnTurns(t *testing.T) {
	r := rand.New(rand.NewSource(169))
	for range 50 {
		var heaps [8]*cells.Heap
		var all [8]*sweep.Sweeper
		var plains [8]plain
		for i := range all {
			many := 4 + i%3
			heaps[i] = heapWith(drawnCells(r, many, "..wwbbg"))
			all[i], plains[i] = sweep.New(heaps[i]), plain{heaps[i].Snapshot(), many, 0}
		}
		for range 500 {
			i := r.Intn(8)
			c := drawnCall(r, len(plains[i].cells))
			next, want := plainMade(plains[i], c)
			if got := made(heaps[i], all[i], c); got != want {
				t.Fatalf("%v: %s, not %s", c, got, want)
			}
			plains[i] = next
			for j := range all {
				stands(t, heaps[j], all[j], plains[j], nil)
			}
		}
	}
}

// TestEachOfOneGoroutine: many goroutines at one time, each with its own sweeper of its own heap, are answered as if each were alone.
func TestEachOfOneGoroutine(t *testing.T) {
	var all sync.WaitGroup
	for seed := range 8 {
		all.Go(func() {
			r := rand.New(rand.NewSource(int64(seed % 2)))
			h := heapWith(drawnCells(r, 9, ".wgb"))
			s := sweep.New(h)
			p := plain{h.Snapshot(), 9, 0}
			for _, c := range drawnRow(r, 9, 2000) {
				next, want := plainMade(p, c)
				if got := made(h, s, c); got != want || s.At() != next.swept || s.Freed() != next.freed {
					t.Errorf("%v: %s, not %s", c, got, want)
					return
				}
				p = next
			}
		})
	}
	all.Wait()
}

// TestHandedOn: a sweeper may go from goroutine to goroutine, as a baton does; its steps go on where they were.
func TestHandedOn(t *testing.T) {
	h := heapWith(cellsOf("wb.wbw"))
	s := sweep.New(h)
	s.Begin()
	told := make(chan int)
	var freed []int
	for range 6 {
		go func() {
			cell, back, _ := s.Step()
			if !back {
				cell = -1
			}
			told <- cell
		}()
		freed = append(freed, <-told)
	}
	if !slices.Equal(freed, []int{0, -1, -1, 3, -1, 5}) || !s.Done() || s.Freed() != 3 {
		t.Errorf("%v, At %d, Freed %d", freed, s.At(), s.Freed())
	}
}

// TestReadBeside: who only looks at a cell while it is swept sees it as it stood ahead of its step, or behind it, and nothing between.
func TestReadBeside(t *testing.T) {
	was := make([]api.Cell, api.MaxCells)
	for i := range was {
		was[i] = cellOf(i, ".wbb"[i*7%4])
	}
	is := without(was, ofLetter(was, 'w'))
	h := heapWith(was)
	s := sweep.New(h)
	s.Begin()
	var looks, swept atomic.Int64
	var all sync.WaitGroup
	all.Go(func() {
		for cell := range was {
			looks.Store(int64(cell + 1))
			for tries := 1; swept.Load() <= int64(cell); tries++ {
				// Where there is one processor, the sweeper is to have it, too.
				if tries%1000 == 0 {
					runtime.Gosched()
				}
				kind, colour, _ := h.Head(cell)
				isAhead := kind == was[cell].Kind && colour == was[cell].Colour
				if !isAhead && (kind != is[cell].Kind || colour != is[cell].Colour) {
					t.Errorf("the cell %d is %d, %d", cell, kind, colour)
				}
			}
		}
	})
	for cell := range was {
		for looks.Load() <= int64(cell) {
			runtime.Gosched()
		}
		if _, _, e := s.Step(); e != api.OK {
			t.Errorf("Step: %d", e)
		}
		swept.Add(1)
	}
	all.Wait()
	if !slices.Equal(h.Snapshot(), is) {
		t.Error("the cells are others")
	}
}
