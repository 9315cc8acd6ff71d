package locks_test

import (
	"math"
	"slices"
	"testing"

	"dapple/api"
	"dapple/locks"
	"dapple/words"
)

// TestNewAtItsLimits: every pair of numbers at the limits and beyond them.
func TestNewAtItsLimits(t *testing.T) {
	numbers := []int{math.MinInt, -1, 0, 1, 7, 8, 9, 63, 64, 65, math.MaxInt32, 1 << 32, 1<<32 + 1, math.MaxInt}
	made := 0
	for _, l := range numbers {
		for _, g := range numbers {
			b, e := locks.New(l, g)
			if l < 0 || l > 8 || g < 0 || g > 64 {
				if b != nil || e != api.ErrArg {
					t.Errorf("New(%d, %d): %v, %d", l, g, b, e)
				}
				continue
			}
			if b == nil || e != api.OK {
				t.Fatalf("New(%d, %d): %v, %d", l, g, b, e)
			}
			made++
			checkNew(desk{t, b}, l, g)
		}
	}
	if made != 4*7 {
		t.Errorf("%d books were made", made)
	}
}

// checkNew: a new book has no threads, so many free locks and so many globals, none beyond.
func checkNew(d desk, locksOf, globals int) {
	d.Helper()
	if n := d.b.Threads(); n != 0 {
		d.Errorf("%d threads", n)
	}
	d.stuck()
	for i := range globals {
		d.global(i, none)
	}
	noGlobals(d, globals)
	for lock := range 9 {
		d.holder(lock, 0)
	}
	d.starts(1)
	d.starts(2)
	for lock := range locksOf {
		d.takes(1, lock)
		d.queues(lock, 2)
		d.hands(1, lock, 2)
		d.hands(2, lock, 0)
	}
	for _, lock := range append(far(), locksOf, locksOf+1) {
		d.mayNotLock(api.ErrLocksNone, 1, lock)
		d.mayNotUnlock(api.ErrLocksNone, 1, lock)
		d.holder(lock, 0)
	}
}

// noGlobals: there is none beyond so many, nor below 0.
func noGlobals(d desk, globals int) {
	d.Helper()
	d.changesNothing(func() {
		d.Helper()
		for _, i := range append(far(), globals, globals+1) {
			if w, e := d.b.Global(i); w != 0 || e != api.ErrArg {
				d.Errorf("Global(%d) of %d: %d, %d", i, globals, w, e)
			}
			for _, w := range []api.Word{0, none, 85} {
				if old, e := d.b.SetGlobal(i, w); old != 0 || e != api.ErrArg {
					d.Errorf("SetGlobal(%d, %d) of %d: %d, %d", i, w, globals, old, e)
				}
			}
		}
	})
}

// TestNoneIsTheWordOfTagNone: what a global is at first is what layer 1 makes of that tag.
func TestNoneIsTheWordOfTagNone(t *testing.T) {
	w, e := words.Make(api.TagNone, 0)
	if w != none || e != api.OK {
		t.Fatalf("%d, %d", w, e)
	}
	d := newDesk(t, 8, 64, 0)
	for i := range 64 {
		d.global(i, w)
	}
}

// anyWords are words of many kinds, and what is no word.
func anyWords() []api.Word {
	out := []api.Word{0, 1, 2, 3, none, 5, 6, 7, 8, 15, 16, 85, 1 << 62, math.MaxInt64, 1 << 63, math.MaxUint64 - 1, math.MaxUint64}
	for cell := range 3 {
		out = append(out, words.Ref(cell))
	}
	return out
}

// TestGlobalsHoldAnything: each by itself, what was laid there last.
func TestGlobalsHoldAnything(t *testing.T) {
	for _, globals := range []int{1, 2, 64} {
		d := newDesk(t, 0, globals, 0)
		for i := range globals {
			old := none
			for _, w := range anyWords() {
				d.sets(i, w, old)
				old = w
			}
			for other := i + 1; other < globals; other++ {
				d.global(other, none)
			}
			for other := range i {
				d.global(other, api.Word(1000+other))
			}
			d.sets(i, api.Word(1000+i), old)
		}
		noGlobals(d, globals)
	}
}

// TestGlobalsAreNobodys: what threads and locks do is nothing to them, nor the other way.
func TestGlobalsAreNobodys(t *testing.T) {
	d := newDesk(t, 2, 2, 3)
	d.sets(0, 85, none)
	d.takes(1, 0)
	d.queues(0, 2)
	d.joinsLater(3, 1)
	d.sets(1, 93, none)
	d.waits(2, 3)
	d.holder(0, 1)
	d.ends(1, 7, 2, 3)
	d.global(0, 85)
	d.global(1, 93)
	d.starts(4)
	d.global(0, 85)
	d.global(1, 93)
}

// TestStarts: from 1 on to 8, and nobody beyond, whether others go, wait or have ended.
func TestStarts(t *testing.T) {
	d := newDesk(t, 1, 0, 0)
	for n := 1; n <= 8; n++ {
		d.changesNothing(func() {
			if x, e := d.b.Ended(n); x != (api.Ended{}) || e != api.ErrLocksNone {
				t.Errorf("Ended(%d): %v, %d", n, x, e)
			}
		})
		d.starts(n)
		d.goes(n)
		if d.b.Threads() != n {
			t.Errorf("%d threads, not %d", d.b.Threads(), n)
		}
	}
	tooMuch(d)
	d.takes(1, 0)
	d.queues(0, 2, 3)
	d.joinsLater(4, 5)
	tooMuch(d)
	for _, n := range []int{5, 6, 8} {
		d.endsBy(n, 85, api.OK, map[int][]int{5: {4}}[n]...)
		tooMuch(d)
	}
	d.ends(1, 7, 2)
	tooMuch(d)
}

// tooMuch: there are eight threads, and nobody more may come.
func tooMuch(d desk) {
	d.Helper()
	d.changesNothing(func() {
		d.Helper()
		if n, e := d.b.Start(); n != 0 || e != api.ErrLocksMuch {
			d.Fatalf("the ninth Start: %d, %d", n, e)
		}
	})
	if n := d.b.Threads(); n != 8 {
		d.Fatalf("%d threads", n)
	}
}

// TestStartBetween: who comes later goes, whatever those ahead of it do, and nobody's number is given twice.
func TestStartBetween(t *testing.T) {
	d := newDesk(t, 1, 0, 2)
	d.takes(1, 0)
	d.queues(0, 2)
	d.starts(3)
	d.goes(3)
	d.waits(2)
	d.queues(0, 3)
	d.ends(1, 85, 2)
	d.starts(4)
	d.goes(4)
	d.joins(4, 1, 85)
	d.queues(0, 4)
	d.hands(2, 0, 3)
	d.hands(3, 0, 4)
	d.ends(4, 85)
	d.holder(0, 0)
	d.starts(5)
	d.takes(5, 0)
}

// TestNumbersOfNobody: what is asked of a thread that there is not.
func TestNumbersOfNobody(t *testing.T) {
	for threads := range 9 {
		d := newDesk(t, 1, 1, threads)
		if threads > 1 {
			d.takes(1, 0)
			d.queues(0, threads)
		}
		strange := append(far(), 0, threads+1, threads+2)
		for _, n := range strange {
			if d.b.Waits(n) {
				t.Errorf("%d of %d waits", n, threads)
			}
			if x, e := d.b.Ended(n); x != (api.Ended{}) || e != api.ErrLocksNone {
				t.Errorf("Ended(%d) of %d: %v, %d", n, threads, x, e)
			}
			d.mayNotLock(api.ErrLocksNone, n, 0)
			d.mayNotUnlock(api.ErrLocksNone, n, 0)
			d.mayNotJoin(api.ErrLocksNone, n, slices.Concat(strange, upTo(threads))...)
		}
		d.mayNotEnd(api.ErrLocksNone, strange...)
		for _, n := range upTo(threads) {
			d.mayNotJoin(api.ErrLocksNone, n, strange...)
		}
	}
}
