package locks_test

import (
	"slices"
	"testing"

	"dapple/api"
)

// orders are all orders of the numbers of a list.
func orders(l []int) [][]int {
	if len(l) == 0 {
		return [][]int{nil}
	}
	var out [][]int
	for i, first := range l {
		for _, rest := range orders(slices.Delete(slices.Clone(l), i, i+1)) {
			out = append(out, append([]int{first}, rest...))
		}
	}
	return out
}

// TestAFreeLock: whoever asks gets it, hands it on to nobody, and may have it again.
func TestAFreeLock(t *testing.T) {
	for lock := range 8 {
		d := newDesk(t, 8, 0, 8)
		for thread := 1; thread <= 8; thread++ {
			for range 2 {
				d.takes(thread, lock)
				d.hands(thread, lock, 0)
				d.mayNotUnlock(not, thread, lock)
			}
		}
		for other := range 8 {
			d.holder(other, 0)
		}
	}
}

// TestInTheOrderOfAsking: whichever that is.
func TestInTheOrderOfAsking(t *testing.T) {
	for _, row := range orders(upTo(5)) {
		d := newDesk(t, 2, 0, 5)
		d.takes(row[0], 1)
		d.queues(1, row[1:]...)
		for i, thread := range row[1:] {
			d.hands(row[i], 1, thread)
			d.waits(row[i+2:]...)
			d.mayNotUnlock(not, row[i], 1)
		}
		d.hands(row[4], 1, 0)
		d.holder(0, 0)
	}
}

// TestRoundAllThreads: each one hands it on and asks again, behind all others, ten times round.
func TestRoundAllThreads(t *testing.T) {
	d := newDesk(t, 1, 0, 8)
	d.takes(1, 0)
	d.queues(0, upTo(8)[1:]...)
	for n := range 80 {
		thread, next := n%8+1, (n+1)%8+1
		d.hands(thread, 0, next)
		d.queues(0, thread)
	}
	for n := 1; n < 8; n++ {
		d.ends(n, api.Word(n), n+1)
		d.holder(0, n+1)
	}
	d.hands(8, 0, 0)
}

// TestWhoComesWhileOthersWait: a row that is cut and made longer by turns, of one to seven who wait.
func TestWhoComesWhileOthersWait(t *testing.T) {
	for waiting := 1; waiting <= 7; waiting++ {
		d := newDesk(t, 1, 0, waiting+1)
		row := upTo(waiting + 1)
		d.takes(1, 0)
		d.queues(0, row[1:]...)
		for round := range 40 {
			cut := round%waiting + 1
			for range cut {
				d.hands(row[0], 0, row[1])
				row = append(row[1:], row[0])
			}
			d.queues(0, row[len(row)-cut:]...)
		}
	}
}

// TestRowsAreEachLocksOwn: who waits for one lock is nothing to another one.
func TestRowsAreEachLocksOwn(t *testing.T) {
	d := newDesk(t, 3, 0, 8)
	d.takes(1, 0)
	d.takes(2, 1)
	d.queues(0, 3)
	d.queues(1, 4)
	d.queues(0, 5)
	d.queues(1, 6)
	d.queues(0, 7)
	d.takes(8, 2)
	d.hands(8, 2, 0)
	d.hands(2, 1, 4)
	d.hands(1, 0, 3)
	d.hands(3, 0, 5)
	d.waits(6, 7)
	d.hands(4, 1, 6)
	d.hands(6, 1, 0)
	d.waits(7)
	d.holder(0, 5)
	d.hands(5, 0, 7)
}

// TestOneThreadHoldsMany: it hands on each by itself.
func TestOneThreadHoldsMany(t *testing.T) {
	d := newDesk(t, 8, 0, 8)
	for lock := range 8 {
		d.takes(1, lock)
	}
	for thread := 2; thread <= 8; thread++ {
		d.queues(9-thread, thread)
	}
	for lock := range 8 {
		d.mayNotLock(twice, 1, lock)
	}
	d.hands(1, 0, 0)
	for lock := 1; lock < 8; lock++ {
		d.hands(1, lock, 9-lock)
		for other := lock + 1; other < 8; other++ {
			d.holder(other, 1)
		}
	}
}

// TestEndHandsOn: how many locks it holds, and how many wait for each, of nobody to three, with and without some who wait for its end.
func TestEndHandsOn(t *testing.T) {
	cases := []struct {
		rows    [][]int // of each lock that it holds
		joining []int
		want    []int
	}{
		{nil, nil, nil},
		{nil, []int{2}, []int{2}},
		{nil, []int{8, 2, 5}, []int{2, 5, 8}},
		{[][]int{{}}, nil, nil},
		{[][]int{{}}, []int{3}, []int{3}},
		{[][]int{{2}}, nil, []int{2}},
		{[][]int{{3, 2}}, nil, []int{3}},
		{[][]int{{4, 3, 2}}, nil, []int{4}},
		{[][]int{{4, 3}}, []int{2}, []int{2, 4}},
		{[][]int{{2, 3}}, []int{4}, []int{2, 4}},
		{[][]int{{}, {}}, nil, nil},
		{[][]int{{}, {2}}, nil, []int{2}},
		{[][]int{{2}, {}}, nil, []int{2}},
		{[][]int{{3}, {2}}, nil, []int{2, 3}},
		{[][]int{{8, 2}, {5, 3, 4}}, []int{7, 6}, []int{5, 6, 7, 8}},
		{[][]int{{8}, {}, {7}, {6, 5}}, []int{4, 3, 2}, []int{2, 3, 4, 6, 7, 8}},
		{[][]int{{8}, {7}, {6}, {5}, {4}, {3}, {2}, {}}, nil, []int{2, 3, 4, 5, 6, 7, 8}},
		{[][]int{{}, {2}, {3}, {4}, {5}, {6}, {7}, {8}}, nil, []int{2, 3, 4, 5, 6, 7, 8}},
		{[][]int{{}, {}, {}, {}, {}, {}, {}, {}}, []int{5, 8, 2, 7, 3, 6, 4}, []int{2, 3, 4, 5, 6, 7, 8}},
	}
	for _, c := range cases {
		for _, err := range []api.Errno{api.OK, api.ErrVMCall} {
			d := newDesk(t, 8, 0, 8)
			for lock, row := range c.rows {
				d.takes(1, lock)
				d.queues(lock, row...)
			}
			for _, thread := range c.joining {
				d.joinsLater(thread, 1)
			}
			d.endsBy(1, 93, err, c.want...)
			for lock, row := range c.rows {
				d.holder(lock, append(row, 0)[0])
				if len(row) > 1 {
					d.waits(row[1:]...)
					d.hands(row[0], lock, row[1])
				}
			}
		}
	}
}

// TestEndLeavesWhatOthersHold: locks of others, their rows, and who waits for others' ends are as they were.
func TestEndLeavesWhatOthersHold(t *testing.T) {
	d := newDesk(t, 3, 1, 8)
	d.takes(1, 1)
	d.takes(2, 0)
	d.takes(3, 2)
	d.queues(0, 4)
	d.queues(2, 5)
	d.joinsLater(6, 2)
	d.queues(1, 7)
	d.ends(1, 85, 7)
	d.waits(4, 5, 6)
	d.goes(2, 3, 8)
	d.holder(0, 2)
	d.holder(1, 7)
	d.holder(2, 3)
	d.ends(8, 85)
	d.waits(4, 5, 6)
	d.ends(2, 85, 4, 6)
	d.ends(3, 85, 5)
}
