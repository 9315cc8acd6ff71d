package alloc_test

import (
	"math"
	"slices"
	"testing"

	"dapple/alloc"
	"dapple/api"
)

// desk is an Alloc whose answers are held against what they ought to be.
type desk struct {
	*testing.T
	a *alloc.Alloc
}

// newDesk is one of so many free cells.
func newDesk(t *testing.T, cells int) desk {
	t.Helper()
	a, e := alloc.New(cells)
	if a == nil || e != api.OK {
		t.Fatalf("New(%d): %v, %d", cells, a, e)
	}
	return desk{t, a}
}

// allOut is one of so many cells that thread 1 has, all of them.
func allOut(t *testing.T, cells int) desk {
	t.Helper()
	d := newDesk(t, cells)
	for cell := range cells {
		d.gets(1, cell)
	}
	return d
}

// gets: the thread asks, and gets the cell.
func (d desk) gets(thread, cell int) {
	d.Helper()
	if c, got, e := d.a.Ask(thread, 0); c != cell || !got || e != api.OK {
		d.Fatalf("Ask(%d, 0): %d, %v, %d, not cell %d", thread, c, got, e, cell)
	}
}

// waits: the threads ask, one behind the other, and wait, each with the same begun.
func (d desk) waits(begun int, threads ...int) {
	d.Helper()
	for _, thread := range threads {
		if c, got, e := d.a.Ask(thread, begun); c != 0 || got || e != api.OK {
			d.Fatalf("Ask(%d, %d): %d, %v, %d, but it waits", thread, begun, c, got, e)
		}
	}
}

// mayNotAsk: the threads ask, and are told that they may not; nothing is changed by that.
func (d desk) mayNotAsk(threads ...int) {
	d.Helper()
	free, waiting := d.a.Free(), d.a.Waiting()
	for _, thread := range threads {
		for _, begun := range edges() {
			if c, got, e := d.a.Ask(thread, begun); c != 0 || got || e != api.ErrAllocForm {
				d.Fatalf("Ask(%d, %d): %d, %v, %d, but it may not", thread, begun, c, got, e)
			}
		}
	}
	d.free(free...)
	d.waiting(waiting...)
}

// goesTo: the cell comes back, and is given to the thread; 0: to nobody.
func (d desk) goesTo(cell, thread int) {
	d.Helper()
	if to, e := d.a.Back(cell); to != thread || e != api.OK {
		d.Fatalf("Back(%d): %d, %d, not thread %d", cell, to, e, thread)
	}
}

// mayNotComeBack: the cells come back, and it is told that they may not; nothing is changed by that.
func (d desk) mayNotComeBack(cells ...int) {
	d.Helper()
	free, waiting := d.a.Free(), d.a.Waiting()
	for _, cell := range cells {
		if to, e := d.a.Back(cell); to != 0 || e != api.ErrAllocForm {
			d.Fatalf("Back(%d): %d, %d, but it may not", cell, to, e)
		}
	}
	d.free(free...)
	d.waiting(waiting...)
}

// refuses: a cycle ends, and these are refused.
func (d desk) refuses(cycle, freed int, want ...int) {
	d.Helper()
	if l := d.a.Finish(cycle, freed); !slices.Equal(l, want) {
		d.Fatalf("Finish(%d, %d): %v, not %v", cycle, freed, l, want)
	}
}

// free: these cells are.
func (d desk) free(want ...int) {
	d.Helper()
	if l := d.a.Free(); !slices.Equal(l, want) {
		d.Fatalf("Free: %v, not %v", l, want)
	}
}

// waiting: these do.
func (d desk) waiting(want ...api.Waiter) {
	d.Helper()
	if l := d.a.Waiting(); !slices.Equal(l, want) {
		d.Fatalf("Waiting: %v, not %v", l, want)
	}
}

func who(thread, begun int) api.Waiter { return api.Waiter{Thread: thread, Begun: begun} }

// edges are numbers of every size, rising.
func edges() []int {
	return []int{
		math.MinInt, math.MinInt + 1, -1<<32 - 1, -1 << 32, math.MinInt32, -4097, -10, -2, -1, 0,
		1, 2, 3, 4, 8, 9, 4096, 4097, math.MaxInt32, 1 << 32, 1<<32 + 1, 1<<32 + 4, math.MaxInt - 1, math.MaxInt,
	}
}

func TestNumbers(t *testing.T) {
	if api.ErrAllocForm != 120 || api.MinCells != 4 || api.MaxCells != 4096 || api.MaxThreads != 8 {
		t.Error("the numbers are others")
	}
}

func TestExampleOfFreeCells(t *testing.T) {
	for _, cells := range []int{3, 4097} {
		if a, e := alloc.New(cells); a != nil || e != api.ErrAllocForm {
			t.Errorf("New(%d): %v, %d", cells, a, e)
		}
	}
	d := newDesk(t, 4)
	d.free(0, 1, 2, 3)
	d.gets(1, 0)
	d.gets(2, 1)
	d.goesTo(0, 0)
	d.gets(1, 0)
	d.mayNotComeBack(3)
}

// TestExampleOfWhoWaits is examples 2 and 3 of the chapter.
func TestExampleOfWhoWaits(t *testing.T) {
	d := allOut(t, 4)
	d.waits(1, 2)
	d.mayNotAsk(2)
	d.waits(2, 1)
	d.waiting(who(2, 1), who(1, 2))
	d.goesTo(3, 2)
	d.free()
	d.mayNotComeBack(3)
	if cell, got, e := d.a.Ask(2, 9); cell != 3 || !got || e != api.OK {
		t.Errorf("Ask(2, 9): %d, %v, %d", cell, got, e)
	}
	d.waiting(who(1, 2))
	d.refuses(2, 0)
	d.refuses(3, 1)
	d.refuses(3, 0, 1)
	d.waiting()
	d.goesTo(0, 0)
	d.free(0)
}

func TestExampleOfThreadsThatThereAreNot(t *testing.T) {
	newDesk(t, 4).mayNotAsk(0, 9)
}
