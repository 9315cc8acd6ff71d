package shake_test

import (
	"slices"
	"testing"

	"dapple/api"
)

// TestNumbersThatNoThreadHas: they are neither asked nor laid, and are nothing, out of a cycle and at each moment of one, whatever other threads are.
func TestNumbersThatNoThreadHas(t *testing.T) {
	for threads := range 9 {
		none := noThreads(threads)
		d := newDesk(t, threads)
		for range 3 {
			d.mayNotAsk(none...)
			d.mayNotLay(none...)
			d.scanned(upTo(threads)...)
			d.begins()
			d.mayNotAsk(none...)
			d.mayNotLay(none...)
			d.scanned()
			d.asks(upTo(threads)...)
			d.mayNotAsk(none...)
			d.mayNotLay(none...)
			d.asked(upTo(threads)...)
			d.lays(upTo(threads)...)
			d.mayNotAsk(none...)
			d.mayNotLay(none...)
			d.scanned(upTo(threads)...)
			d.ends()
		}
	}
}

// TestANumberThatAThreadGetsLater: it was nothing ahead of that.
func TestANumberThatAThreadGetsLater(t *testing.T) {
	d := begun(t, 1)
	d.mayNotAsk(2)
	d.mayNotLay(2)
	d.born(1, 2)
	d.asked()
	d.left(1)
	d.asks(2)
	d.lays(2)
	d.scanned(2)
}

// TestOutOfACycle: all count as scanned, nobody is asked, and none may be asked or laid; so it is ahead of the first cycle and behind each.
func TestOutOfACycle(t *testing.T) {
	for threads := range 9 {
		d := newDesk(t, threads)
		for range 3 {
			d.scanned(upTo(threads)...)
			d.asked()
			d.left(0)
			d.mayNotAsk(numbers()...)
			d.mayNotLay(numbers()...)
			d.mayNotEnd()
			d.begins()
			d.asks(upTo(threads)...)
			d.lays(upTo(threads)...)
			d.ends()
		}
	}
}

// TestBegin: nobody is scanned, and nobody was asked, in the first cycle and in the next ones; in none may another one begin.
func TestBegin(t *testing.T) {
	for threads := range 9 {
		d := newDesk(t, threads)
		for range 4 {
			d.begins()
			d.scanned()
			d.asked()
			d.left(min(1, threads))
			d.mayNotBegin()
			for thread := 1; thread <= threads; thread++ {
				d.asks(thread)
				d.mayNotBegin()
				d.lays(thread)
				d.mayNotBegin()
			}
			d.ends()
		}
	}
}

// TestAsk: a thread is asked once a cycle, whatever the others are.
func TestAsk(t *testing.T) {
	for threads := 1; threads <= 8; threads++ {
		for thread := 1; thread <= threads; thread++ {
			d := begun(t, threads)
			d.asks(thread)
			d.asked(thread)
			d.scanned()
			d.left(1)
			d.mayNotAsk(thread)
			d.mayNotAsk(thread)
			d.asked(thread)
			d.lays(thread)
			d.mayNotAsk(thread)
			d.asked()
			d.lays(slices.DeleteFunc(upTo(threads), func(n int) bool { return n == thread })...)
			d.ends()
			d.asked()
			d.mayNotAsk(thread)
			d.begins()
			d.asked()
			d.asks(thread)
			d.asked(thread)
		}
	}
}

// TestAskInEveryOrder: each of four is asked by itself.
func TestAskInEveryOrder(t *testing.T) {
	for set := range 1 << 4 {
		d := begun(t, 4)
		var asked []int
		for thread := 4; thread >= 1; thread-- {
			if set>>(thread-1)&1 == 1 {
				d.asks(thread)
				asked = append([]int{thread}, asked...)
			}
			d.asked(asked...)
		}
		d.scanned()
		d.mayNotAsk(asked...)
	}
}

// TestLay: whether it was asked or not; behind it the thread is scanned, and asked no more; a second one is refused.
func TestLay(t *testing.T) {
	for threads := 1; threads <= 8; threads++ {
		for thread := 1; thread <= threads; thread++ {
			for _, asked := range []bool{false, true} {
				d := begun(t, threads)
				if asked {
					d.asks(thread)
				}
				d.lays(thread)
				d.scanned(thread)
				d.asked()
				d.mayNotLay(thread)
				d.mayNotAsk(thread)
				d.mayNotLay(thread)
				d.scanned(thread)
			}
		}
	}
}

// TestLayLeavesOthersAsked: who is asked, and not laid, stays asked.
func TestLayLeavesOthersAsked(t *testing.T) {
	d := begun(t, 8)
	d.asks(upTo(8)...)
	for i, thread := range []int{5, 1, 8, 2, 7, 3, 6, 4} {
		d.lays(thread)
		if l := which(d.s.Asked); len(l) != 7-i || slices.Contains(l, thread) {
			t.Errorf("asked: %v", l)
		}
	}
}

// eachOrder hands on all rows of the numbers from 1 on, so many.
func eachOrder(n int, do func(row []int)) {
	row := upTo(n)
	var rest func(from int)
	rest = func(from int) {
		if from == n {
			do(slices.Clone(row))
			return
		}
		for i := from; i < n; i++ {
			row[from], row[i] = row[i], row[from]
			rest(from + 1)
			row[from], row[i] = row[i], row[from]
		}
	}
	rest(0)
}

// TestLeftAtEachStep: in whatever order up to five threads are laid, it is the least of the others, and 0 at last; no End comes ahead of that.
func TestLeftAtEachStep(t *testing.T) {
	orders := 0
	for threads := range 6 {
		eachOrder(threads, func(row []int) {
			orders++
			d := begun(t, threads)
			for i := range row {
				d.left(slices.Min(row[i:]))
				d.mayNotEnd()
				d.lays(row[i])
			}
			d.left(0)
			d.ends()
			d.left(0)
		})
	}
	if orders != 1+1+2+6+24+120 {
		t.Errorf("%d orders", orders)
	}
}

// TestLeftOfEachSet: of every set of eight that is laid.
func TestLeftOfEachSet(t *testing.T) {
	for set := range 1 << 8 {
		d := begun(t, 8)
		var laid, rest []int
		for thread := 1; thread <= 8; thread++ {
			if set>>(thread-1)&1 == 1 {
				d.lays(thread)
				laid = append(laid, thread)
			} else {
				rest = append(rest, thread)
			}
		}
		d.scanned(laid...)
		if len(rest) == 0 {
			d.left(0)
			d.ends()
		} else {
			d.left(rest[0])
			d.mayNotEnd()
		}
	}
}

// TestLeftIsNothingToWhoWasAsked: one that was asked is still left.
func TestLeftIsNothingToWhoWasAsked(t *testing.T) {
	d := begun(t, 3)
	d.asks(1)
	d.left(1)
	d.asks(2, 3)
	d.left(1)
	d.lays(1)
	d.left(2)
}

// TestEnd: out of a cycle it is refused, and as long as one is not scanned, whichever that is, and whether it was asked or not.
func TestEnd(t *testing.T) {
	for threads := 1; threads <= 8; threads++ {
		for last := 1; last <= threads; last++ {
			d := newDesk(t, threads)
			d.mayNotEnd()
			d.begins()
			for thread := 1; thread <= threads; thread++ {
				d.mayNotEnd()
				if thread != last {
					d.lays(thread)
				}
			}
			d.mayNotEnd()
			d.asks(last)
			d.mayNotEnd()
			d.lays(last)
			d.ends()
			d.mayNotEnd()
			d.begins()
			d.mayNotEnd()
		}
	}
}

// TestCyclesWithoutThreads: each is ended at once, and one behind the other.
func TestCyclesWithoutThreads(t *testing.T) {
	d := newDesk(t, 0)
	for range 5 {
		d.mayNotEnd()
		d.begins()
		d.mayNotBegin()
		d.left(0)
		d.ends()
	}
	d.born(0, 1)
	d.begins()
	d.mayNotEnd()
}

// TestEndBehindOneWhoWasBornInTheCycle: of nobody it is no hindrance, of one that is not scanned it is.
func TestEndBehindOneWhoWasBornInTheCycle(t *testing.T) {
	d := begun(t, 0)
	d.born(0, 1)
	d.ends()
	d.begins()
	d.born(0, 2)
	d.mayNotEnd()
	d.born(1, 3)
	d.lays(1)
	d.mayNotEnd()
	d.lays(3)
	d.ends()
	d.scanned(1, 2, 3)
	d.bearsNone(api.ErrShakeForm, 4)
}
