package locks_test

import (
	"slices"
	"testing"

	"dapple/api"
)

// ring lets the threads of a row wait each for the next one, and the last for the first: by its end or, if bit i of byLock is set, the i-th by lock i, which the next one holds. The way on is that of asking.
func ring(d desk, row []int, byLock int) {
	d.Helper()
	for i := range row {
		if byLock>>i&1 == 1 {
			d.takes(row[(i+1)%len(row)], i)
		}
	}
	for i, thread := range row {
		d.stuck()
		if byLock>>i&1 == 1 {
			d.queues(i, thread)
		} else {
			d.joinsLater(thread, row[(i+1)%len(row)])
		}
	}
	want := slices.Sorted(slices.Values(row))
	d.stuck(want...)
	d.waits(want...)
}

// TestRings: of two to eight, by locks, by ends, by both in every mix.
func TestRings(t *testing.T) {
	for size := 2; size <= 8; size++ {
		row := upTo(8)[8-size:]
		for byLock := range 1 << size {
			ring(newDesk(t, 8, 0, 8), row, byLock)
			slices.Reverse(row)
			ring(newDesk(t, 8, 0, 8), row, byLock)
		}
	}
}

// TestRingsInEveryOrder: of five threads, whoever asks first.
func TestRingsInEveryOrder(t *testing.T) {
	for _, row := range orders(upTo(5)) {
		for _, byLock := range []int{0, 31, 10, 21} {
			ring(newDesk(t, 5, 0, 5), row, byLock)
		}
	}
}

// TestOthersAreNotTold: who waits for one in a ring, by its lock or its end, or for one that does, is none of it, its number being less or more.
func TestOthersAreNotTold(t *testing.T) {
	for _, row := range [][]int{{1, 2}, {7, 8}, {4, 5}, {8, 1}, {3, 6}, {2, 4, 6}, {5, 3, 8}} {
		for byLock := range 1 << len(row) {
			d := newDesk(t, 8, 0, 8)
			d.takes(row[0], 7)
			ring(d, row, byLock)
			want := slices.Sorted(slices.Values(row))
			last := row[0]
			for n := 1; n <= 8; n++ {
				if slices.Contains(row, n) {
					continue
				}
				if n%2 == 0 {
					d.queues(7, n)
				} else {
					d.joinsLater(n, last)
				}
				d.stuck(want...)
				last = n
			}
		}
	}
}

// TestWhoWaitsForTheLockOfOneInARing: in front of a ring's own member in the row, or behind it.
func TestWhoWaitsForTheLockOfOneInARing(t *testing.T) {
	for _, first := range []bool{true, false} {
		d := newDesk(t, 2, 0, 4)
		d.takes(1, 0)
		d.takes(2, 1)
		if first {
			d.queues(0, 3)
		}
		d.queues(0, 2)
		d.queues(1, 1)
		if !first {
			d.queues(0, 3)
		}
		d.stuck(1, 2)
		d.joinsLater(4, 3)
		d.stuck(1, 2)
	}
}

// TestSeveralRings: all of them are told, rising.
func TestSeveralRings(t *testing.T) {
	d := newDesk(t, 2, 0, 8)
	d.joinsLater(8, 1)
	d.joinsLater(1, 8)
	d.stuck(1, 8)
	d.takes(5, 0)
	d.takes(2, 1)
	d.queues(1, 5)
	d.stuck(1, 8)
	d.queues(0, 2)
	d.stuck(1, 2, 5, 8)
	d.joinsLater(7, 3)
	d.joinsLater(3, 4)
	d.stuck(1, 2, 5, 8)
	d.joinsLater(4, 7)
	d.stuck(1, 2, 3, 4, 5, 7, 8)
	d.joinsLater(6, 3)
	d.stuck(1, 2, 3, 4, 5, 7, 8)
}

// TestWhoWaitsIsNotStuck: as long as somebody at the end of the way goes.
func TestWhoWaitsIsNotStuck(t *testing.T) {
	d := newDesk(t, 2, 0, 4)
	d.stuck()
	d.takes(1, 0)
	d.queues(0, 2, 3)
	d.joinsLater(4, 2)
	d.stuck()
	d.takes(1, 1)
	d.hands(1, 0, 2)
	d.queues(1, 2)
	d.stuck()
	d.queues(0, 1)
	d.stuck(1, 2)
}

// TestARingThatComesByHandingOn: the one to whom the lock goes holds now what others wait for.
func TestARingThatComesByHandingOn(t *testing.T) {
	d := newDesk(t, 2, 0, 3)
	d.takes(1, 0)
	d.takes(2, 1)
	d.queues(0, 2, 3)
	d.stuck()
	d.hands(1, 0, 2)
	d.stuck()
	d.queues(1, 1)
	d.stuck()
	d.joinsLater(2, 3)
	d.stuck(2, 3)
}

// TestStuckGoesOnNoMore: whatever others do, whoever ends, comes, takes or hands on.
func TestStuckGoesOnNoMore(t *testing.T) {
	d := newDesk(t, 4, 1, 6)
	d.takes(1, 0)
	d.takes(2, 1)
	d.queues(0, 2)
	d.queues(1, 1)
	d.takes(3, 2)
	d.queues(2, 4)
	for _, do := range []func(){
		func() { d.starts(7) },
		func() { d.hands(3, 2, 4) },
		func() { d.queues(1, 3) },
		func() { d.ends(4, 85) },
		func() { d.joinsLater(5, 1) },
		func() { d.sets(0, 85, none) },
		func() { d.fails(6, api.ErrVMCall) },
		func() { d.ends(7, 85) },
	} {
		do()
		d.stuck(1, 2)
		for _, n := range []int{1, 2} {
			d.mayNotEnd(not, n)
			d.mayNotLock(not, n, 0, 1, 2, 3)
			d.mayNotUnlock(not, n, 0, 1, 2, 3)
			d.mayNotJoin(not, n, upTo(6)...)
		}
	}
	d.holder(0, 1)
	d.holder(1, 2)
}
