package alloc_test

import (
	"slices"
	"testing"

	"dapple/api"
)

// TestWhoWaitsWithWhateverBegun: it stands there as it was told, and in the order in which they asked.
func TestWhoWaitsWithWhateverBegun(t *testing.T) {
	for _, begun := range edges() {
		d := allOut(t, 4)
		for thread := 8; thread >= 1; thread-- {
			d.waits(begun, thread)
		}
		d.mayNotAsk(1, 2, 3, 4, 5, 6, 7, 8)
		d.waiting(who(8, begun), who(7, begun), who(6, begun), who(5, begun), who(4, begun), who(3, begun), who(2, begun), who(1, begun))
	}
	d := allOut(t, 4)
	d.waits(9, 4)
	d.waits(-9, 1)
	d.waits(5, 8)
	d.waiting(who(4, 9), who(1, -9), who(8, 5))
}

// TestServedInEveryOrder: all eight wait, in every order of four with the others behind them: each cell that comes back goes to the first of the row.
func TestServedInEveryOrder(t *testing.T) {
	eachOrder(4, func(row []int) {
		d := allOut(t, 8)
		var threads []int
		for _, i := range row {
			threads = append(threads, i+1)
		}
		threads = append(threads, 7, 5, 8, 6)
		for i, thread := range threads {
			d.waits(100-i, thread)
		}
		for i, cell := range []int{3, 0, 7, 1, 6, 2, 4, 5} {
			d.goesTo(cell, threads[i])
			d.free()
			d.mayNotComeBack(cell)
			d.mayNotAsk(threads[i+1:]...)
			if w := d.a.Waiting(); len(w) != 7-i {
				t.Fatalf("%v wait", w)
			}
		}
		for i, cell := range []int{3, 0, 7, 1, 6, 2, 4, 5} {
			d.gets(threads[i], cell)
		}
		d.waits(0, threads...)
	})
}

// TestAGiftAheadOfFreeOnes: who a cell is given to gets that one, though one of a lesser number is free; and that one stays free.
func TestAGiftAheadOfFreeOnes(t *testing.T) {
	d := allOut(t, 5)
	d.waits(0, 3)
	d.goesTo(4, 3)
	d.goesTo(0, 0)
	d.goesTo(2, 0)
	d.free(0, 2)
	d.gets(3, 4)
	d.free(0, 2)
	d.gets(3, 0)
	d.gets(3, 2)
	d.waits(0, 3)
}

// TestAGiftWhileNoneIsFree: it is got, though others wait, who go on waiting.
func TestAGiftWhileNoneIsFree(t *testing.T) {
	d := allOut(t, 4)
	d.waits(1, 3)
	d.goesTo(2, 3)
	d.waits(1, 4)
	d.gets(3, 2)
	d.free()
	d.waiting(who(4, 1))
	d.waits(2, 3)
	d.waiting(who(4, 1), who(3, 2))
}

// TestTwoGifts: each of two threads gets its own, in whatever order they ask, and nobody else gets one.
func TestTwoGifts(t *testing.T) {
	for _, first := range []int{2, 7} {
		d := allOut(t, 4)
		d.waits(0, 2, 7)
		d.goesTo(3, 2)
		d.goesTo(0, 7)
		d.free()
		d.waiting()
		d.waits(0, 5)
		d.mayNotComeBack(0, 3)
		cells := map[int]int{2: 3, 7: 0}
		d.gets(first, cells[first])
		d.mayNotComeBack(cells[9-first])
		d.gets(9-first, cells[9-first])
		d.waiting(who(5, 0))
		d.goesTo(0, 5)
		d.gets(5, 0)
	}
}

// TestAGiftOfCellNought: the cell of the number 0 is a gift as any other one.
func TestAGiftOfCellNought(t *testing.T) {
	for thread := 1; thread <= 8; thread++ {
		d := allOut(t, 4)
		d.waits(0, thread)
		d.goesTo(0, thread)
		d.goesTo(1, 0)
		d.mayNotComeBack(0)
		d.gets(thread, 0)
		d.free(1)
		d.goesTo(0, 0)
		d.free(0, 1)
	}
}

// TestAGiftIsGotOnce: the next Ask is answered as if there had been none.
func TestAGiftIsGotOnce(t *testing.T) {
	d := allOut(t, 4)
	d.waits(0, 6)
	d.goesTo(1, 6)
	d.gets(6, 1)
	d.goesTo(1, 0)
	d.gets(5, 1)
	d.waits(0, 6)
	d.goesTo(2, 6)
	d.gets(6, 2)
	d.waits(0, 6)
}

// TestBackWhileSoManyWait: nobody, one, and more up to all eight.
func TestBackWhileSoManyWait(t *testing.T) {
	for many := range 9 {
		d := allOut(t, 9)
		for thread := 1; thread <= many; thread++ {
			d.waits(thread, thread)
		}
		for cell := range 9 {
			to := cell + 1
			if to > many {
				to = 0
			}
			d.goesTo(cell, to)
		}
		d.free(upTo(9)[many:]...)
		d.waiting()
		for thread := 1; thread <= many; thread++ {
			d.gets(thread, thread-1)
		}
		d.free(upTo(9)[many:]...)
	}
}

// TestBehindAllThatWait: who was served and asks again stands last.
func TestBehindAllThatWait(t *testing.T) {
	d := allOut(t, 4)
	d.waits(0, 1, 2, 3)
	for turn := range 30 {
		thread, cell := 1+turn%3, turn%4
		d.goesTo(cell, thread)
		d.gets(thread, cell)
		d.waits(turn, thread)
		w := d.a.Waiting()
		if len(w) != 3 || w[2] != who(thread, turn) {
			t.Fatalf("%v wait", w)
		}
	}
}

// TestWhoHasManyWaitsToo: a thread may have all cells, and wait; its own cell that comes back is given to it.
func TestWhoHasManyWaitsToo(t *testing.T) {
	d := allOut(t, 4)
	d.waits(0, 1)
	d.goesTo(2, 1)
	d.gets(1, 2)
	d.free()
	d.waiting()
}

// TestAnyThreadsCellMayComeBack: whose it was is nothing to Back.
func TestAnyThreadsCellMayComeBack(t *testing.T) {
	d := newDesk(t, 8)
	for cell := range 8 {
		d.gets(cell+1, cell)
	}
	var want []int
	for _, cell := range []int{4, 1, 7, 0} {
		d.goesTo(cell, 0)
		want = append(want, cell)
		slices.Sort(want)
		d.free(want...)
	}
}

// TestAnErrorNamesNobody: whoever asks wrongly, the row and its order are as they were.
func TestAnErrorNamesNobody(t *testing.T) {
	d := allOut(t, 4)
	d.waits(5, 8, 1)
	d.mayNotAsk(8, 1, 0, 9, -1)
	d.mayNotComeBack(-1, 4)
	d.waiting(api.Waiter{Thread: 8, Begun: 5}, api.Waiter{Thread: 1, Begun: 5})
	d.goesTo(0, 8)
	d.goesTo(1, 1)
}
