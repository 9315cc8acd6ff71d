package alloc_test

import (
	"math"
	"math/rand"
	"slices"
	"testing"

	"dapple/alloc"
	"dapple/api"
)

// upTo are the numbers from 0 on, so many.
func upTo(n int) []int {
	out := []int{}
	for i := range n {
		out = append(out, i)
	}
	return out
}

func TestCellsThatThereMayNotBe(t *testing.T) {
	for _, cells := range append(edges(), 0, 1, 2, 3, -4, -4096, 4097, 4098, 8192, 1<<16+4, 1<<48+5) {
		if 4 <= cells && cells <= 4096 {
			continue
		}
		if a, e := alloc.New(cells); a != nil || e != api.ErrAllocForm {
			t.Errorf("New(%d): %v, %d", cells, a != nil, e)
		}
	}
}

// TestNew: there are so many, all free, and nobody waits; and they go out one by one, from the least on.
func TestNew(t *testing.T) {
	for _, cells := range []int{4, 5, 6, 7, 8, 63, 64, 65, 4095, 4096} {
		d := newDesk(t, cells)
		d.free(upTo(cells)...)
		d.waiting()
		d.mayNotComeBack(0, 1, cells-1, cells)
		for cell := range cells {
			d.gets(1+cell%8, cell)
		}
		d.free()
		d.waiting()
		d.waits(0, 1)
	}
}

// TestThreads: 1 to 8 may ask, no other one may, whatever is free.
func TestThreads(t *testing.T) {
	none := slices.DeleteFunc(append(edges(), 10, 16, 17, 256, 257, 264, 1<<32+8), func(n int) bool { return 1 <= n && n <= 8 })
	for thread := 1; thread <= 8; thread++ {
		d := newDesk(t, 4)
		d.mayNotAsk(none...)
		d.gets(thread, 0)
		d.mayNotAsk(none...)
		for cell := 1; cell < 4; cell++ {
			d.gets(thread, cell)
		}
		d.mayNotAsk(none...)
		d.waits(7, thread)
		d.mayNotAsk(append(none, thread)...)
		d.waiting(who(thread, 7))
		d.goesTo(2, thread)
		d.mayNotAsk(none...)
		d.gets(thread, 2)
	}
}

// TestCellsThatMayNotComeBack: none that there is not, that is free, or that is given.
func TestCellsThatMayNotComeBack(t *testing.T) {
	for _, cells := range []int{4, 4096} {
		none := []int{-1, cells, cells + 1, -cells, 1 << 32, -1 << 32, math.MinInt, math.MaxInt}
		d := newDesk(t, cells)
		d.mayNotComeBack(none...)
		d.mayNotComeBack(0, 1, cells-2, cells-1)
		for cell := range cells {
			d.gets(3, cell)
		}
		d.mayNotComeBack(none...)
		d.waits(0, 5, 6)
		d.goesTo(cells-1, 5)
		d.mayNotComeBack(none...)
		d.mayNotComeBack(cells - 1)
		d.goesTo(0, 6)
		d.mayNotComeBack(0, cells-1)
		d.goesTo(1, 0)
		d.mayNotComeBack(0, 1, cells-1)
		d.gets(5, cells-1)
		d.mayNotComeBack(0, 1)
		d.goesTo(cells-1, 0)
		d.mayNotComeBack(0, 1, cells-1)
		d.free(1, cells-1)
	}
}

// eachOrder hands on all rows of so many numbers from 0 on.
func eachOrder(n int, do func(row []int)) {
	row := upTo(n)
	var rest func(from int)
	rest = func(from int) {
		if from == n {
			do(slices.Clone(row))
			return
		}
		for i := from; i < n; i++ {
			row[from], row[i] = row[i], row[from]
			rest(from + 1)
			row[from], row[i] = row[i], row[from]
		}
	}
	rest(0)
}

// TestTheLeastInEveryOrder: in whatever order cells came back, Free is rising at each moment, and the least goes out first.
func TestTheLeastInEveryOrder(t *testing.T) {
	orders := 0
	eachOrder(6, func(row []int) {
		orders++
		d := allOut(t, 6)
		for i, cell := range row {
			d.goesTo(cell, 0)
			d.free(slices.Sorted(slices.Values(row[:i+1]))...)
		}
		for cell := range 6 {
			d.gets(1+cell, cell)
			d.free(upTo(6)[cell+1:]...)
		}
	})
	if orders != 720 {
		t.Errorf("%d orders", orders)
	}
}

// TestTheLeastOfSome: of every set of cells that came back, while the others stay out.
func TestTheLeastOfSome(t *testing.T) {
	for set := range 1 << 7 {
		d := allOut(t, 7)
		var back []int
		for cell := 6; cell >= 0; cell-- {
			if set>>cell&1 == 1 {
				d.goesTo(cell, 0)
				back = append([]int{cell}, back...)
			}
		}
		d.free(back...)
		for _, cell := range back {
			d.gets(8, cell)
		}
		d.waits(0, 8)
	}
}

// TestTheLeastOfAll: of 4096 cells, that come back in drawn orders, and go out and come back by turns.
func TestTheLeastOfAll(t *testing.T) {
	r := rand.New(rand.NewSource(120))
	for range 3 {
		d := allOut(t, 4096)
		order := r.Perm(4096)
		for _, cell := range order {
			d.goesTo(cell, 0)
		}
		d.free(upTo(4096)...)
		for cell := range 2048 {
			d.gets(2, cell)
		}
		d.goesTo(1000, 0)
		d.goesTo(999, 0)
		d.free(append([]int{999, 1000}, upTo(4096)[2048:]...)...)
		d.gets(3, 999)
		d.gets(4, 1000)
		d.gets(5, 2048)
	}
}

// TestBegunIsNothingToWhoGets: what is free, or given, is got with whatever begun.
func TestBegunIsNothingToWhoGets(t *testing.T) {
	for _, begun := range edges() {
		d := allOut(t, 4)
		d.waits(3, 2)
		d.goesTo(3, 2)
		d.goesTo(1, 0)
		for _, x := range []struct{ thread, cell int }{{1, 1}, {2, 3}} {
			if cell, got, e := d.a.Ask(x.thread, begun); cell != x.cell || !got || e != api.OK {
				t.Errorf("Ask(%d, %d): %d, %v, %d", x.thread, begun, cell, got, e)
			}
		}
		d.waiting()
	}
}
