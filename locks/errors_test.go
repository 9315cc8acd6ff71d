package locks_test

import (
	"testing"

	"dapple/api"
)

const (
	ok    = api.OK
	noOne = api.ErrLocksNone
	twice = api.ErrLocksTwice
	not   = api.ErrLocksNot
	self  = api.ErrLocksSelf
)

// kinds is a book with a thread of each kind: 1 goes and holds lock 0; 2 waits for lock 0, and holds lock 1; 3 waits for the end of 1; 4 has ended with a word, 5 by an error; 6 goes and holds nothing. Lock 2 is free.
func kinds(t *testing.T) desk {
	t.Helper()
	d := newDesk(t, 3, 1, 6)
	d.takes(1, 0)
	d.takes(2, 1)
	d.queues(0, 2)
	d.joinsLater(3, 1)
	d.ends(4, 85)
	d.fails(5, api.ErrVMCall)
	return d
}

// TestEndOfEachKind: which error, of the thread of that number; on a book of its own, as an End that is taken changes it.
func TestEndOfEachKind(t *testing.T) {
	want := map[int]api.Errno{-1: noOne, 0: noOne, 1: ok, 2: not, 3: not, 4: not, 5: not, 6: ok, 7: noOne, 8: noOne, 9: noOne}
	for thread, e := range want {
		for _, err := range []api.Errno{api.OK, api.ErrArg, api.ErrLocksNone, api.ErrNoCells, -1} {
			d := kinds(t)
			switch {
			case e != ok:
				d.mayNotEnd(e, thread)
			case thread == 1:
				d.endsBy(thread, 93, err, 2, 3)
			default:
				d.endsBy(thread, 93, err)
			}
		}
	}
}

// TestJoinOfEachKind: a row a thread that asks, in it a column a thread that is asked for, from 0 to 7.
func TestJoinOfEachKind(t *testing.T) {
	want := [][]api.Errno{
		{noOne, noOne, noOne, noOne, noOne, noOne, noOne, noOne},
		{noOne, self, ok, ok, ok, api.ErrVMCall, ok, noOne},
		{noOne, not, not, not, not, not, not, noOne},
		{noOne, not, not, not, not, not, not, noOne},
		{noOne, not, not, not, not, not, not, noOne},
		{noOne, not, not, not, not, not, not, noOne},
		{noOne, ok, ok, ok, ok, api.ErrVMCall, self, noOne},
		{noOne, noOne, noOne, noOne, noOne, noOne, noOne, noOne},
	}
	for thread, row := range want {
		for of, e := range row {
			d := kinds(t)
			switch {
			case e == api.ErrVMCall:
				d.joinsFailed(thread, of, e)
			case e != ok:
				d.mayNotJoin(e, thread, of)
			case of == 4:
				d.joins(thread, of, 85)
			default:
				d.joinsLater(thread, of)
			}
		}
	}
}

// TestLockOfEachKind: a row a thread from 0 to 7, in it a column a lock from -1 to 3.
func TestLockOfEachKind(t *testing.T) {
	want := [][]api.Errno{
		{noOne, noOne, noOne, noOne, noOne},
		{noOne, twice, ok, ok, noOne},
		{noOne, not, not, not, noOne},
		{noOne, not, not, not, noOne},
		{noOne, not, not, not, noOne},
		{noOne, not, not, not, noOne},
		{noOne, ok, ok, ok, noOne},
		{noOne, noOne, noOne, noOne, noOne},
	}
	for thread, row := range want {
		for i, e := range row {
			lock := i - 1
			d := kinds(t)
			switch {
			case e != ok:
				d.mayNotLock(e, thread, lock)
			case lock == 2:
				d.takes(thread, lock)
			default:
				d.queues(lock, thread)
			}
		}
	}
}

// TestUnlockOfEachKind: as TestLockOfEachKind.
func TestUnlockOfEachKind(t *testing.T) {
	want := [][]api.Errno{
		{noOne, noOne, noOne, noOne, noOne},
		{noOne, ok, not, not, noOne},
		{noOne, not, not, not, noOne},
		{noOne, not, not, not, noOne},
		{noOne, not, not, not, noOne},
		{noOne, not, not, not, noOne},
		{noOne, not, not, not, noOne},
		{noOne, noOne, noOne, noOne, noOne},
	}
	for thread, row := range want {
		for i, e := range row {
			lock := i - 1
			d := kinds(t)
			if e != ok {
				d.mayNotUnlock(e, thread, lock)
				continue
			}
			d.hands(thread, lock, 2)
		}
	}
}

// TestWhatIsToldOfEachKind: Waits, Ended and Holder.
func TestWhatIsToldOfEachKind(t *testing.T) {
	d := kinds(t)
	d.goes(1, 6)
	d.waits(2, 3)
	d.ended(4, api.Ended{Ended: true, Word: 85})
	d.ended(5, api.Ended{Ended: true, Err: api.ErrVMCall})
	for _, n := range []int{2, 3} {
		if x, e := d.b.Ended(n); x != (api.Ended{}) || e != api.OK {
			t.Errorf("Ended(%d): %v, %d", n, x, e)
		}
	}
	d.holder(-1, 0)
	d.holder(0, 1)
	d.holder(1, 2)
	d.holder(2, 0)
	d.holder(3, 0)
	d.stuck()
}

// TestOneThatHoldsAndWaits: a lock that it holds, it may neither ask for nor hand on while it waits for another one.
func TestOneThatHoldsAndWaits(t *testing.T) {
	d := kinds(t)
	d.mayNotLock(not, 2, 0, 1, 2)
	d.mayNotUnlock(not, 2, 0, 1, 2)
	d.mayNotEnd(not, 2)
	d.hands(1, 0, 2)
	d.mayNotLock(twice, 2, 0, 1)
	d.takes(2, 2)
	d.hands(2, 1, 0)
	d.hands(2, 0, 0)
}

// TestErrorsOfTheLastThread: the last one of eight is as any other.
func TestErrorsOfTheLastThread(t *testing.T) {
	d := newDesk(t, 8, 0, 8)
	d.mayNotJoin(self, 8, 8)
	d.mayNotJoin(noOne, 8, 0, 9)
	d.takes(8, 7)
	d.mayNotLock(twice, 8, 7)
	d.mayNotLock(noOne, 8, 8, -1)
	d.mayNotUnlock(not, 8, 0)
	d.mayNotUnlock(noOne, 8, 8, -1)
	d.joinsLater(8, 1)
	d.mayNotEnd(not, 8)
	d.mayNotJoin(not, 8, upTo(8)...)
	d.ends(1, 85, 8)
	d.fails(8, api.ErrMuch)
	d.mayNotEnd(not, 8)
	d.mayNotEnd(noOne, 9)
	d.mayNotJoin(not, 8, upTo(8)...)
	d.mayNotLock(not, 8, 0, 7)
	d.mayNotUnlock(not, 8, 0, 7)
	d.holder(7, 0)
	d.joinsFailed(2, 8, api.ErrMuch)
}

// TestBooksOfNothing: without locks, or without threads, every number is nobody's.
func TestBooksOfNothing(t *testing.T) {
	d := newDesk(t, 0, 0, 1)
	d.mayNotLock(noOne, 1, -1, 0, 1)
	d.mayNotUnlock(noOne, 1, -1, 0, 1)
	d = newDesk(t, 1, 0, 0)
	for n := -1; n <= 2; n++ {
		d.mayNotLock(noOne, n, 0, 1)
		d.mayNotUnlock(noOne, n, 0, 1)
		d.mayNotJoin(noOne, n, 0, 1)
		d.mayNotEnd(noOne, n)
	}
}
