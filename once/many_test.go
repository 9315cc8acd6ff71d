package once_test

import (
	"runtime"
	"slices"
	"strings"
	"sync"
	"sync/atomic"
	"testing"
	"time"
)

// beside lets n goroutines do something at one time, and waits for all of them.
func beside(n int, f func(i int)) {
	var all sync.WaitGroup
	start := make(chan struct{})
	for i := range n {
		all.Add(1)
		go func() {
			defer all.Done()
			<-start
			f(i)
		}()
	}
	close(start)
	all.Wait()
}

// meet waits till so many have come here: who goes on from it goes on at nearly the same moment as the others.
func meet(here *atomic.Int64, all int64) {
	here.Add(1)
	for tries := 1; here.Load() < all; tries++ {
		if tries%1000 == 0 {
			runtime.Gosched()
		}
	}
}

// soon tells whether something holds, now or in a while.
func soon(holds func() bool) bool {
	for range 5000 {
		if holds() {
			return true
		}
		time.Sleep(time.Millisecond)
	}
	return false
}

// onProcessors does something on one processor, on two, and on all.
func onProcessors(do func()) {
	all := runtime.GOMAXPROCS(0)
	defer runtime.GOMAXPROCS(all)
	for _, n := range []int{1, 2, all} {
		runtime.GOMAXPROCS(n)
		do()
	}
}

// stacks are those of all goroutines whose stacks have some text.
func stacks(has string) []string {
	text := make([]byte, 1<<16)
	n := runtime.Stack(text, true)
	for ; n == len(text); n = runtime.Stack(text, true) {
		text = make([]byte, 2*len(text))
	}
	return slices.DeleteFunc(strings.Split(string(text[:n]), "\n\n"), func(s string) bool { return !strings.Contains(s, has) })
}

// begun are the goroutines that the package has begun.
func begun() []string { return stacks("created by dapple/once.") }

// past is a call that was made: when it began and when it ended, and what the same call does to a plain thing S: what that
// is then, and whether the plain thing would have answered the same.
type past[S any] struct {
	begin, end int64
	step       func(S) (S, bool)
}

// book is where goroutines lay down their calls, each into a row of its own.
type book[S any] struct {
	clock atomic.Int64
	rows  [][]past[S]
}

// note makes a call, and lays it down for goroutine i. The call tells how a plain thing would go on.
func (b *book[S]) note(i int, call func() func(S) (S, bool)) {
	begin := b.clock.Add(1)
	step := call()
	b.rows[i] = append(b.rows[i], past[S]{begin, b.clock.Add(1), step})
}

// fits tells whether the calls can be put in a row, none ahead of one that had ended when it began, in which a plain thing
// answers the same: that each was as if done at one moment between its beginning and its end (R7).
func (b *book[S]) fits(plain S) bool {
	var left []past[S]
	for _, row := range b.rows {
		left = append(left, row...)
	}
	return inARow(plain, left)
}

func inARow[S any](plain S, left []past[S]) bool {
	if len(left) == 0 {
		return true
	}
	soonest := left[0].end
	for _, p := range left {
		soonest = min(soonest, p.end)
	}
	for i, p := range left {
		if p.begin > soonest {
			continue
		}
		next, same := p.step(plain)
		if !same {
			continue
		}
		rest := append(append([]past[S](nil), left[:i]...), left[i+1:]...)
		if inARow(next, rest) {
			return true
		}
	}
	return false
}

// eachAtOneMoment lets goroutines make few calls on a new thing, again and again; what they were answered must fit.
// round makes a thing, and gives how goroutine i makes its call number j on it.
func eachAtOneMoment[S any](t *testing.T, rounds int, plain S, round func(n int, b *book[S]) func(i, j int)) {
	t.Helper()
	const goroutines, calls = 4, 3
	for n := range rounds {
		b := &book[S]{rows: make([][]past[S], goroutines)}
		f := round(n, b)
		var here atomic.Int64
		beside(goroutines, func(i int) {
			meet(&here, goroutines)
			for j := range calls {
				f(i, j)
			}
		})
		if !b.fits(plain) {
			t.Fatal("the calls can't be put in a row, round", n)
		}
	}
}

// TestRowsThatCannotBe: what the other tests hold calls against does tell wrong answers.
func TestRowsThatCannotBe(t *testing.T) {
	took := func(n int) func(int) (int, bool) {
		return func(next int) (int, bool) { return next + 1, next == n }
	}
	for _, c := range []struct {
		rows [][]past[int]
		fits bool
	}{
		{[][]past[int]{{{1, 2, took(0)}}, {{3, 4, took(1)}}}, true},
		{[][]past[int]{{{1, 2, took(1)}}, {{3, 4, took(0)}}}, false},
		{[][]past[int]{{{1, 3, took(1)}}, {{2, 4, took(0)}}}, true},
		{[][]past[int]{{{1, 3, took(0)}}, {{2, 4, took(0)}}}, false},
	} {
		if b := (&book[int]{rows: c.rows}); b.fits(0) != c.fits {
			t.Error(c.rows, "fits:", !c.fits)
		}
	}
}
