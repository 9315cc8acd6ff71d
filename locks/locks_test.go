package locks_test

import (
	"math"
	"slices"
	"testing"

	"dapple/api"
	"dapple/locks"
)

// none is the word of TagNone, as the chapter tells it.
const none api.Word = 4

// desk is a Book whose answers are held against what they ought to be.
type desk struct {
	*testing.T
	b *locks.Book
}

// newDesk is one of so many locks, globals, and threads that go.
func newDesk(t *testing.T, locksOf, globals, threads int) desk {
	t.Helper()
	b, e := locks.New(locksOf, globals)
	if b == nil || e != api.OK {
		t.Fatalf("New(%d, %d): %v, %d", locksOf, globals, b, e)
	}
	d := desk{t, b}
	for n := 1; n <= threads; n++ {
		d.starts(n)
	}
	return d
}

// starts: a thread comes, of that number.
func (d desk) starts(want int) {
	d.Helper()
	if n, e := d.b.Start(); n != want || e != api.OK {
		d.Fatalf("Start: %d, %d, not %d", n, e, want)
	}
}

// ends: the thread ends with the word, and these go then.
func (d desk) ends(thread int, w api.Word, want ...int) {
	d.Helper()
	d.endsBy(thread, w, api.OK, want...)
}

// fails: the thread ends by the error, and these go then.
func (d desk) fails(thread int, err api.Errno, want ...int) {
	d.Helper()
	d.endsBy(thread, 85, err, want...)
}

func (d desk) endsBy(thread int, w api.Word, err api.Errno, want ...int) {
	d.Helper()
	if l, e := d.b.End(thread, w, err); !slices.Equal(l, want) || e != api.OK {
		d.Fatalf("End(%d, %d, %d): %v, %d, not %v", thread, w, err, l, e, want)
	}
	is := api.Ended{Ended: true, Word: w}
	if err != api.OK {
		is = api.Ended{Ended: true, Err: err}
	}
	d.ended(thread, is)
	d.goes(want...)
}

// joins: the thread asks for the end of the other one, which has come: the word.
func (d desk) joins(thread, of int, want api.Word) {
	d.Helper()
	if w, now, e := d.b.Join(thread, of); w != want || !now || e != api.OK {
		d.Fatalf("Join(%d, %d): %d, %v, %d, not %d now", thread, of, w, now, e, want)
	}
	d.goes(thread)
}

// joinsFailed: the same of one that has ended by an error: that error.
func (d desk) joinsFailed(thread, of int, want api.Errno) {
	d.Helper()
	if w, now, e := d.b.Join(thread, of); w != 0 || !now || e != want {
		d.Fatalf("Join(%d, %d): %d, %v, %d, not error %d now", thread, of, w, now, e, want)
	}
	d.goes(thread)
}

// joinsLater: the thread waits for the other one's end.
func (d desk) joinsLater(thread, of int) {
	d.Helper()
	if w, now, e := d.b.Join(thread, of); w != 0 || now || e != api.OK {
		d.Fatalf("Join(%d, %d): %d, %v, %d, but it waits", thread, of, w, now, e)
	}
	d.waits(thread)
}

// takes: the thread gets the lock at once.
func (d desk) takes(thread, lock int) {
	d.Helper()
	if now, e := d.b.Lock(thread, lock); !now || e != api.OK {
		d.Fatalf("Lock(%d, %d): %v, %d", thread, lock, now, e)
	}
	d.goes(thread)
	d.holder(lock, thread)
}

// queues: the threads, one behind the other, wait for the lock.
func (d desk) queues(lock int, threads ...int) {
	d.Helper()
	for _, thread := range threads {
		holder := d.b.Holder(lock)
		if now, e := d.b.Lock(thread, lock); now || e != api.OK {
			d.Fatalf("Lock(%d, %d): %v, %d, but it waits", thread, lock, now, e)
		}
		d.waits(thread)
		d.holder(lock, holder)
	}
}

// hands: the thread hands the lock on to the other one; 0: to nobody.
func (d desk) hands(thread, lock, to int) {
	d.Helper()
	if n, e := d.b.Unlock(thread, lock); n != to || e != api.OK {
		d.Fatalf("Unlock(%d, %d): %d, %d, not %d", thread, lock, n, e, to)
	}
	d.holder(lock, to)
	d.goes(thread)
	if to != 0 {
		d.goes(to)
	}
}

func (d desk) mayNotEnd(want api.Errno, threads ...int) {
	d.Helper()
	d.changesNothing(func() {
		d.Helper()
		for _, thread := range threads {
			for _, err := range []api.Errno{api.OK, api.ErrVMCall} {
				if l, e := d.b.End(thread, 85, err); len(l) != 0 || e != want {
					d.Fatalf("End(%d, 85, %d): %v, %d, not error %d", thread, err, l, e, want)
				}
			}
		}
	})
}

func (d desk) mayNotJoin(want api.Errno, thread int, of ...int) {
	d.Helper()
	d.changesNothing(func() {
		d.Helper()
		for _, of := range of {
			if w, now, e := d.b.Join(thread, of); w != 0 || now || e != want {
				d.Fatalf("Join(%d, %d): %d, %v, %d, not error %d", thread, of, w, now, e, want)
			}
		}
	})
}

func (d desk) mayNotLock(want api.Errno, thread int, locks ...int) {
	d.Helper()
	d.changesNothing(func() {
		d.Helper()
		for _, lock := range locks {
			if now, e := d.b.Lock(thread, lock); now || e != want {
				d.Fatalf("Lock(%d, %d): %v, %d, not error %d", thread, lock, now, e, want)
			}
		}
	})
}

func (d desk) mayNotUnlock(want api.Errno, thread int, locks ...int) {
	d.Helper()
	d.changesNothing(func() {
		d.Helper()
		for _, lock := range locks {
			if n, e := d.b.Unlock(thread, lock); n != 0 || e != want {
				d.Fatalf("Unlock(%d, %d): %d, %d, not error %d", thread, lock, n, e, want)
			}
		}
	})
}

// changesNothing: what is done there leaves all that can be seen as it was.
func (d desk) changesNothing(do func()) {
	d.Helper()
	was := seen(d.b)
	do()
	if is := seen(d.b); is != was {
		d.Fatalf("it was\n%v\nand is\n%v", was, is)
	}
}

func (d desk) waits(threads ...int) {
	d.Helper()
	for _, thread := range threads {
		if !d.b.Waits(thread) {
			d.Fatalf("%d does not wait", thread)
		}
	}
}

// goes: the threads neither wait nor have ended.
func (d desk) goes(threads ...int) {
	d.Helper()
	for _, thread := range threads {
		if d.b.Waits(thread) {
			d.Fatalf("%d waits", thread)
		}
		if x, e := d.b.Ended(thread); x != (api.Ended{}) || e != api.OK {
			d.Fatalf("%d has ended: %v, %d", thread, x, e)
		}
	}
}

func (d desk) ended(thread int, want api.Ended) {
	d.Helper()
	if x, e := d.b.Ended(thread); x != want || e != api.OK {
		d.Fatalf("Ended(%d): %v, %d, not %v", thread, x, e, want)
	}
	if d.b.Waits(thread) {
		d.Fatalf("%d waits", thread)
	}
}

func (d desk) holder(lock, want int) {
	d.Helper()
	if n := d.b.Holder(lock); n != want {
		d.Fatalf("Holder(%d): %d, not %d", lock, n, want)
	}
}

func (d desk) stuck(want ...int) {
	d.Helper()
	if l := d.b.Stuck(); !slices.Equal(l, want) {
		d.Fatalf("Stuck: %v, not %v", l, want)
	}
}

func (d desk) global(i int, want api.Word) {
	d.Helper()
	if w, e := d.b.Global(i); w != want || e != api.OK {
		d.Fatalf("Global(%d): %d, %d, not %d", i, w, e, want)
	}
}

// sets: the global has the word then, and had the other one.
func (d desk) sets(i int, w, old api.Word) {
	d.Helper()
	if was, e := d.b.SetGlobal(i, w); was != old || e != api.OK {
		d.Fatalf("SetGlobal(%d, %d): %d, %d, not %d", i, w, was, e, old)
	}
	d.global(i, w)
}

// sight is all that can be asked of a book without a change, also of numbers beyond its own, which begin at -1.
type sight struct {
	threads  int
	stuck    [api.MaxThreads]int
	waits    [api.MaxThreads + 3]bool
	ended    [api.MaxThreads + 3]api.Ended
	endedErr [api.MaxThreads + 3]api.Errno
	holders  [api.MaxLocks + 2]int
	globals  [api.MaxGlobals + 2]api.Word
	noGlobal [api.MaxGlobals + 2]api.Errno
}

func seen(b *locks.Book) sight {
	s := sight{threads: b.Threads()}
	copy(s.stuck[:], b.Stuck())
	for i := range s.ended {
		s.waits[i] = b.Waits(i - 1)
		s.ended[i], s.endedErr[i] = b.Ended(i - 1)
	}
	for i := range s.holders {
		s.holders[i] = b.Holder(i - 1)
	}
	for i := range s.globals {
		s.globals[i], s.noGlobal[i] = b.Global(i - 1)
	}
	return s
}

// far are numbers that no thread, lock or global has, in any book.
func far() []int {
	return []int{math.MinInt, math.MinInt + 1, -1<<32 + 1, math.MinInt32, -2, -1, 64, 65, 256, 257, math.MaxInt32, 1 << 32, 1<<32 + 1, math.MaxInt - 1, math.MaxInt}
}

// upTo are the numbers from 1 on.
func upTo(last int) []int {
	var out []int
	for n := 1; n <= last; n++ {
		out = append(out, n)
	}
	return out
}

func TestNumbers(t *testing.T) {
	if api.ErrArg != 1 || api.ErrLocksNone != 190 || api.ErrLocksTwice != 191 || api.ErrLocksNot != 192 || api.ErrLocksSelf != 193 || api.ErrLocksMuch != 194 {
		t.Error("the errors' numbers are others")
	}
	if api.MaxThreads != 8 || api.MaxLocks != 8 || api.MaxGlobals != 64 {
		t.Error("the limits are others")
	}
}

// TestExampleOfALock is example 1 of the chapter.
func TestExampleOfALock(t *testing.T) {
	d := newDesk(t, 1, 0, 3)
	d.takes(1, 0)
	d.queues(0, 2, 3)
	d.hands(1, 0, 2)
	d.ends(2, 85, 3)
	d.holder(0, 3)
	d.mayNotLock(api.ErrLocksTwice, 3, 0)
}

// TestExampleOfAJoin is example 2.
func TestExampleOfAJoin(t *testing.T) {
	d := newDesk(t, 0, 0, 2)
	d.joinsLater(1, 2)
	if l, e := d.b.End(2, 0, api.ErrVMCall); !slices.Equal(l, []int{1}) || e != api.OK {
		t.Fatalf("End: %v, %d", l, e)
	}
	d.joinsFailed(1, 2, api.ErrVMCall)
	d.mayNotJoin(api.ErrLocksSelf, 1, 1)
	d.mayNotJoin(api.ErrLocksNot, 2, 1)
}

// TestExampleOfARing is example 3.
func TestExampleOfARing(t *testing.T) {
	d := newDesk(t, 2, 0, 3)
	d.takes(1, 0)
	d.takes(2, 1)
	d.queues(1, 1)
	d.stuck()
	d.queues(0, 2)
	d.stuck(1, 2)
	d.joinsLater(3, 1)
	d.stuck(1, 2)
}

// TestExampleOfLimits is example 4.
func TestExampleOfLimits(t *testing.T) {
	if b, e := locks.New(9, 0); b != nil || e != api.ErrArg {
		t.Errorf("New(9, 0): %v, %d", b, e)
	}
	d := newDesk(t, 0, 1, 8)
	d.global(0, 4)
	if n, e := d.b.Start(); n != 0 || e != api.ErrLocksMuch {
		t.Errorf("Start: %d, %d", n, e)
	}
}
