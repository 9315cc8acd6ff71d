package shake_test

import (
	"fmt"
	"math"
	"slices"
	"testing"

	"dapple/api"
	"dapple/shake"
)

// desk is a Shake whose answers are held against what they ought to be.
type desk struct {
	*testing.T
	s *shake.Shake
}

// newDesk is one with so many threads, each of parent 0, out of a cycle.
func newDesk(t *testing.T, threads int) desk {
	t.Helper()
	d := desk{t, shake.New()}
	for thread := 1; thread <= threads; thread++ {
		d.born(0, thread)
	}
	return d
}

// begun is one with so many threads, in a cycle that has just begun.
func begun(t *testing.T, threads int) desk {
	t.Helper()
	d := newDesk(t, threads)
	d.begins()
	return d
}

// born: a thread is, of that parent, with that number.
func (d desk) born(parent, thread int) {
	d.Helper()
	if n, e := d.s.Born(parent); n != thread || e != api.OK {
		d.Fatalf("Born(%d): %d, %d, not thread %d", parent, n, e, thread)
	}
}

func (d desk) begins() {
	d.Helper()
	if e := d.s.Begin(); e != api.OK {
		d.Fatalf("Begin: %d", e)
	}
}

func (d desk) ends() {
	d.Helper()
	if e := d.s.End(); e != api.OK {
		d.Fatalf("End: %d", e)
	}
}

// asks: the threads are asked, one behind the other.
func (d desk) asks(threads ...int) {
	d.Helper()
	for _, thread := range threads {
		if e := d.s.Ask(thread); e != api.OK {
			d.Fatalf("Ask(%d): %d", thread, e)
		}
	}
}

// lays: the threads' roots are laid, one behind the other.
func (d desk) lays(threads ...int) {
	d.Helper()
	for _, thread := range threads {
		if e := d.s.Lay(thread); e != api.OK {
			d.Fatalf("Lay(%d): %d", thread, e)
		}
	}
}

// bearsNone: nobody is born of these parents, by that error, and nothing is changed by that.
func (d desk) bearsNone(want api.Errno, parents ...int) {
	d.Helper()
	d.changesNothing(func() {
		for _, parent := range parents {
			if n, e := d.s.Born(parent); n != 0 || e != want {
				d.Fatalf("Born(%d): %d, %d, not %d", parent, n, e, want)
			}
		}
	})
}

// mayNotAsk: these threads may not be asked, and nothing is changed by that.
func (d desk) mayNotAsk(threads ...int) {
	d.Helper()
	d.changesNothing(func() { d.refuses("Ask", d.s.Ask, threads) })
}

// mayNotLay: the roots of these threads may not be laid, and nothing is changed by that.
func (d desk) mayNotLay(threads ...int) {
	d.Helper()
	d.changesNothing(func() { d.refuses("Lay", d.s.Lay, threads) })
}

func (d desk) refuses(name string, call func(int) api.Errno, threads []int) {
	d.Helper()
	for _, thread := range threads {
		if e := call(thread); e != api.ErrShakeForm {
			d.Fatalf("%s(%d): %d, but it may not be", name, thread, e)
		}
	}
}

func (d desk) mayNotBegin() {
	d.Helper()
	d.changesNothing(func() {
		if e := d.s.Begin(); e != api.ErrShakeForm {
			d.Fatalf("Begin: %d, but it may not be", e)
		}
	})
}

func (d desk) mayNotEnd() {
	d.Helper()
	d.changesNothing(func() {
		if e := d.s.End(); e != api.ErrShakeForm {
			d.Fatalf("End: %d, but it may not be", e)
		}
	})
}

// changesNothing: what the shake tells of itself is the same behind the calls as ahead of them.
func (d desk) changesNothing(calls func()) {
	d.Helper()
	was := told(d.s)
	calls()
	if is := told(d.s); is != was {
		d.Fatalf("%s has become %s", was, is)
	}
}

// scanned: these threads are, and no other number is.
func (d desk) scanned(want ...int) {
	d.Helper()
	if l := which(d.s.Scanned); !slices.Equal(l, want) {
		d.Fatalf("scanned: %v, not %v", l, want)
	}
}

// asked: these threads are, and no other number is.
func (d desk) asked(want ...int) {
	d.Helper()
	if l := which(d.s.Asked); !slices.Equal(l, want) {
		d.Fatalf("asked: %v, not %v", l, want)
	}
}

func (d desk) left(want int) {
	d.Helper()
	if n := d.s.Left(); n != want {
		d.Fatalf("Left: %d, not %d", n, want)
	}
}

// which are the numbers of which it is so, rising.
func which(is func(int) bool) []int {
	var out []int
	for _, n := range numbers() {
		if is(n) {
			out = append(out, n)
		}
	}
	return out
}

// told is all that a shake tells of itself, without being changed.
func told(s *shake.Shake) string {
	return fmt.Sprint("scanned ", which(s.Scanned), ", asked ", which(s.Asked), ", left ", s.Left())
}

// numbers are those that a thread may have, 1 to 8, among others of every size; rising.
func numbers() []int {
	out := []int{math.MinInt, math.MinInt + 1, -1<<32 - 1, -1 << 32, math.MinInt32, -256, -9, -8, -7, -2, -1, 0}
	out = append(out, upTo(8)...)
	return append(out, 9, 10, 15, 16, 17, 255, 256, 257, 264, math.MaxInt32, 1<<32, 1<<32+1, 1<<32+8, math.MaxInt-1, math.MaxInt)
}

// noThreads are the numbers that no thread has, if there are so many threads.
func noThreads(threads int) []int {
	return slices.DeleteFunc(numbers(), func(n int) bool { return 1 <= n && n <= threads })
}

// noParents are the numbers of which nobody can be born, if there are so many threads.
func noParents(threads int) []int {
	return slices.DeleteFunc(noThreads(threads), func(n int) bool { return n == 0 })
}

// upTo are the numbers from 1 on, so many.
func upTo(n int) []int {
	var out []int
	for i := range n {
		out = append(out, i+1)
	}
	return out
}

func TestNumbers(t *testing.T) {
	if api.ErrMuch != 2 || api.ErrShakeForm != 140 || api.MaxThreads != 8 {
		t.Error("the numbers are others")
	}
}

// TestExamplesOfOneCycle is examples 1 and 2 of the chapter.
func TestExamplesOfOneCycle(t *testing.T) {
	d := newDesk(t, 0)
	d.born(0, 1)
	d.born(1, 2)
	d.scanned(1, 2)
	d.left(0)
	d.mayNotAsk(1)
	d.mayNotLay(1)
	d.mayNotEnd()
	d.begins()
	d.mayNotBegin()
	d.left(1)
	d.scanned()

	d.asks(2)
	d.mayNotAsk(2)
	d.asked(2)
	d.born(1, 3)
	d.scanned()
	d.lays(1)
	d.born(1, 4)
	d.scanned(1, 4)
	d.born(0, 5)
	d.scanned(1, 4, 5)
	d.left(2)
	d.mayNotEnd()
	d.lays(2)
	d.asked()
	d.left(3)
	d.lays(3)
	d.left(0)
	d.mayNotLay(3)
	d.ends()
	d.scanned(1, 2, 3, 4, 5)
	if d.s.Scanned(6) {
		t.Error("6 is scanned")
	}
}

// TestExampleOfAParentThatThereIsNot is example 3 of the chapter.
func TestExampleOfAParentThatThereIsNot(t *testing.T) {
	newDesk(t, 2).bearsNone(api.ErrShakeForm, 7)
	newDesk(t, 8).bearsNone(api.ErrMuch, 7)
}
