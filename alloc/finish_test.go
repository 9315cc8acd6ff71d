package alloc_test

import (
	"math"
	"testing"

	"dapple/api"
)

// TestBegunAgainstCycle: of every size, each against each: refused is who began below the cycle.
func TestBegunAgainstCycle(t *testing.T) {
	for i, begun := range edges() {
		for j, cycle := range edges() {
			d := allOut(t, 4)
			d.waits(begun, 4)
			if i < j {
				d.refuses(cycle, 0, 4)
				d.waiting()
				d.goesTo(0, 0)
			} else {
				d.refuses(cycle, 0)
				d.waiting(who(4, begun))
				d.goesTo(0, 4)
			}
		}
	}
}

// TestACycleThatGaveSomethingBack: nobody is refused by it, and nothing changes; nor by one that gave less than nothing.
func TestACycleThatGaveSomethingBack(t *testing.T) {
	for _, freed := range edges() {
		if freed == 0 {
			continue
		}
		for _, cycle := range edges() {
			d := allOut(t, 4)
			d.waits(-3, 2)
			d.waits(5, 1)
			d.refuses(cycle, freed)
			d.waiting(who(2, -3), who(1, 5))
			d.free()
			d.refuses(math.MaxInt, 0, 2, 1)
		}
	}
}

// TestRefusedAmongThoseWhoStay: every set of eight who wait, in an order that is not that of their numbers; both are told in the order of the row.
func TestRefusedAmongThoseWhoStay(t *testing.T) {
	row := []int{5, 2, 8, 1, 7, 3, 6, 4}
	for set := range 1 << 8 {
		d := allOut(t, 8)
		var refused []int
		var stay []api.Waiter
		for i, thread := range row {
			if set>>i&1 == 1 {
				d.waits(9-i, thread)
				refused = append(refused, thread)
			} else {
				d.waits(10+i, thread)
				stay = append(stay, who(thread, 10+i))
			}
		}
		d.refuses(10, 0, refused...)
		d.waiting(stay...)
		d.refuses(10, 0)
		d.waits(50, refused...)
		for i, w := range stay {
			d.goesTo(i, w.Thread)
		}
		for i, thread := range refused {
			d.goesTo(len(stay)+i, thread)
		}
	}
}

// TestRefusedCanAskAgain: and waits behind all, or gets what is free.
func TestRefusedCanAskAgain(t *testing.T) {
	d := allOut(t, 4)
	d.waits(1, 3)
	d.waits(2, 5)
	d.refuses(2, 0, 3)
	d.mayNotAsk(5)
	d.waits(2, 3)
	d.waiting(who(5, 2), who(3, 2))
	d.refuses(3, 0, 5, 3)
	d.goesTo(2, 0)
	d.gets(3, 2)
	d.waits(3, 5)
	d.refuses(3, 0)
	d.goesTo(0, 5)
	d.gets(5, 0)
}

// TestWhoHasAGiftIsNotRefused: it does not wait, whatever the cycle is; its cell stays its own.
func TestWhoHasAGiftIsNotRefused(t *testing.T) {
	d := allOut(t, 4)
	d.waits(0, 6, 7, 2)
	d.goesTo(3, 6)
	d.refuses(math.MaxInt, 0, 7, 2)
	d.refuses(math.MaxInt, 0)
	d.mayNotComeBack(3)
	d.goesTo(1, 0)
	d.free(1)
	d.gets(6, 3)
	d.gets(7, 1)
	d.waits(0, 2)
}

// TestNobodyWaits: nobody is refused, and no cell moves, free, out or given.
func TestNobodyWaits(t *testing.T) {
	d := newDesk(t, 4)
	for _, cycle := range edges() {
		for _, freed := range edges() {
			d.refuses(cycle, freed)
		}
	}
	d.free(0, 1, 2, 3)
	d.gets(1, 0)
	d.refuses(math.MaxInt, 0)
	d.free(1, 2, 3)
	d.mayNotComeBack(1, 2, 3)
	d.goesTo(0, 0)
}

// TestCyclesAreNotCounted: they may come in any order, and more than once.
func TestCyclesAreNotCounted(t *testing.T) {
	d := allOut(t, 4)
	d.waits(5, 1)
	for _, cycle := range []int{5, 4, 0, -1, 5, math.MinInt} {
		d.refuses(cycle, 0)
	}
	d.waits(3, 2)
	d.refuses(4, 0, 2)
	d.refuses(6, 0, 1)
	d.waits(-8, 1)
	d.refuses(-8, 0)
	d.refuses(-7, 0, 1)
}
