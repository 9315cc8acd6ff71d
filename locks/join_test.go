package locks_test

import (
	"testing"

	"dapple/api"
)

// TestJoinOfOneThatHasEnded: the word, whichever it is, as often as it is asked for, by all others.
func TestJoinOfOneThatHasEnded(t *testing.T) {
	for _, w := range anyWords() {
		d := newDesk(t, 0, 0, 8)
		d.ends(5, w)
		for range 2 {
			for _, thread := range []int{1, 4, 6, 8} {
				d.joins(thread, 5, w)
			}
		}
		d.ended(5, api.Ended{Ended: true, Word: w})
	}
}

// TestJoinOfOneThatHasFailed: the error, whichever it is, also one that Join has of its own; its word is lost.
func TestJoinOfOneThatHasFailed(t *testing.T) {
	for _, err := range []api.Errno{api.ErrArg, api.ErrMuch, api.ErrNoCells, api.ErrVMCall, api.ErrLocksNone, api.ErrLocksTwice, api.ErrLocksNot, api.ErrLocksSelf, api.ErrLocksMuch, 9999, -1} {
		d := newDesk(t, 0, 0, 3)
		d.fails(2, err)
		for range 2 {
			d.joinsFailed(1, 2, err)
			d.joinsFailed(3, 2, err)
		}
		d.ended(2, api.Ended{Ended: true, Err: err})
	}
}

// TestJoinOfOneThatEndsLater: who waits goes, and may join again.
func TestJoinOfOneThatEndsLater(t *testing.T) {
	for waiting := 1; waiting <= 7; waiting++ {
		for _, err := range []api.Errno{api.OK, api.ErrVMStack} {
			d := newDesk(t, 0, 0, 8)
			for n := waiting; n >= 1; n-- {
				d.joinsLater(n, 8)
			}
			for n := waiting + 1; n <= 8; n++ {
				d.goes(n)
			}
			d.endsBy(8, 85, err, upTo(waiting)...)
			for n := 1; n <= 7; n++ {
				if err != api.OK {
					d.joinsFailed(n, 8, err)
				} else {
					d.joins(n, 8, 85)
				}
			}
		}
	}
}

// TestJoinIsForOneEnd: who waits for one end waits on, whoever else ends.
func TestJoinIsForOneEnd(t *testing.T) {
	d := newDesk(t, 1, 0, 5)
	d.joinsLater(1, 2)
	d.ends(3, 85)
	d.fails(4, api.ErrVMCall)
	d.waits(1)
	d.ends(2, 93, 1)
	d.joins(1, 2, 93)
	d.joinsLater(1, 5)
	d.ends(5, 101, 1)
	d.joins(1, 5, 101)
	d.joins(1, 3, 85)
	d.joinsFailed(1, 4, api.ErrVMCall)
}

// TestARowOfJoins: each waits for the next one's end; they go one by one, from the last.
func TestARowOfJoins(t *testing.T) {
	d := newDesk(t, 0, 0, 8)
	for n := 1; n < 8; n++ {
		d.joinsLater(n, n+1)
	}
	d.stuck()
	for n := 8; n > 1; n-- {
		d.ends(n, api.Word(n), n-1)
		d.joins(n-1, n, api.Word(n))
	}
	d.ends(1, 1)
	for n := 1; n <= 8; n++ {
		d.ended(n, api.Ended{Ended: true, Word: api.Word(n)})
	}
}

// TestJoinKeepsLocks: who waits for an end holds its locks on, and others wait for them.
func TestJoinKeepsLocks(t *testing.T) {
	d := newDesk(t, 1, 0, 3)
	d.takes(1, 0)
	d.joinsLater(1, 2)
	d.holder(0, 1)
	d.queues(0, 3)
	d.holder(0, 1)
	d.ends(2, 85, 1)
	d.holder(0, 1)
	d.waits(3)
	d.hands(1, 0, 3)
}

// TestEndWithAWordAndAnError: by the error then, and the word is 0.
func TestEndWithAWordAndAnError(t *testing.T) {
	for _, w := range anyWords() {
		d := newDesk(t, 0, 0, 2)
		d.endsBy(1, w, api.ErrVMCall)
		d.joinsFailed(2, 1, api.ErrVMCall)
		d.ended(1, api.Ended{Ended: true, Err: api.ErrVMCall})
	}
}
