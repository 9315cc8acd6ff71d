package atoms_test

import (
	"errors"
	"math"
	"runtime"
	"sync/atomic"
	"testing"

	"dapple/api"
	"dapple/atoms"
)

// answers is a function that answers n.
func answers(n int64) func() int64 { return func() int64 { return n } }

// falls are functions that panic, each in its own way.
func falls() map[string]func() int64 {
	var none []int64
	var nowhere *int64
	nought := int64(0)
	return map[string]func() int64{
		"a text":           func() int64 { panic("falls") },
		"an error":         func() int64 { panic(errors.New("falls")) },
		"nil":              func() int64 { panic(nil) },
		"a number":         func() int64 { panic(7) },
		"beyond a list":    func() int64 { return none[nought] },
		"nowhere":          func() int64 { return *nowhere },
		"by nought":        func() int64 { return 7 / nought },
		"behind an answer": func() (n int64) { n = 7; defer func() { panic("falls") }(); return 8 },
	}
}

func TestOnce(t *testing.T) {
	for _, n := range []int64{7, 0, -1, math.MaxInt64, math.MinInt64} {
		o := atoms.NewOnce()
		if got, first, e := o.Do(answers(n)); got != n || !first || e != api.OK {
			t.Error("the first", n, got, first, e)
		}
		for range 3 {
			got, first, e := o.Do(func() int64 { t.Error("called again"); return 8 })
			if got != n || first || e != api.OK {
				t.Error("another", n, got, first, e)
			}
		}
	}
}

func TestOnceThatPanics(t *testing.T) {
	for name, f := range falls() {
		o := atoms.NewOnce()
		if got, first, e := o.Do(f); got != 0 || !first || e != api.ErrOncePanic {
			t.Error(name, "the first", got, first, e)
		}
		for range 3 {
			got, first, e := o.Do(func() int64 { t.Error("called again"); return 8 })
			if got != 0 || first || e != api.ErrOncePanic {
				t.Error(name, "another", got, first, e)
			}
		}
		if got, first, e := o.Do(f); got != 0 || first || e != api.ErrOncePanic {
			t.Error(name, "again", got, first, e)
		}
	}
}

// TestOncesKnowNothingOfOneAnother: one may be asked within another one's function.
func TestOncesKnowNothingOfOneAnother(t *testing.T) {
	o, p := atoms.NewOnce(), atoms.NewOnce()
	n, first, e := o.Do(func() int64 {
		if n, first, e := p.Do(falls()["a text"]); n != 0 || !first || e != api.ErrOncePanic {
			t.Error("the inner one", n, first, e)
		}
		return 5
	})
	if n != 5 || !first || e != api.OK {
		t.Error("the outer one", n, first, e)
	}
	if n, first, e := p.Do(answers(6)); n != 0 || first || e != api.ErrOncePanic {
		t.Error("the inner one again", n, first, e)
	}
}

// TestOnceOfMany: one function is called; all wait till it has ended, and are told the same; what it wrote is seen.
func TestOnceOfMany(t *testing.T) {
	for turn := range 400 {
		panics := turn%2 == 1
		o := atoms.NewOnce()
		var calls, firsts atomic.Int64
		made := 0
		beside(goroutines, func(i int) {
			n, first, e := o.Do(func() int64 {
				calls.Add(1)
				for range 20 {
					runtime.Gosched()
				}
				made++
				if panics {
					panic("falls")
				}
				return int64(100 + i)
			})
			if first {
				firsts.Add(1)
				if !panics && n != int64(100+i) {
					t.Error("not its own function's number", n)
				}
			}
			if made != 1 {
				t.Error("answered ahead of the function's end")
			}
			if panics && (n != 0 || e != api.ErrOncePanic) || !panics && (n < 100 || n >= 100+goroutines || e != api.OK) {
				t.Error("told", n, e)
			}
		})
		if calls.Load() != 1 || firsts.Load() != 1 {
			t.Fatal("calls", calls.Load(), "firsts", firsts.Load())
		}
	}
}

// TestOnceTellsAllTheSame: also those who ask while the first one's function still runs.
func TestOnceTellsAllTheSame(t *testing.T) {
	for range 100 {
		o, told := atoms.NewOnce(), make([]int64, goroutines)
		beside(goroutines, func(i int) {
			told[i], _, _ = o.Do(func() int64 { runtime.Gosched(); return int64(i + 1) })
		})
		for _, n := range told {
			if n != told[0] || n == 0 {
				t.Fatal("told", told)
			}
		}
	}
}

func TestOnceAtOneMoment(t *testing.T) {
	eachAtOneMoment(t, int64(-1), func(b *book[int64]) func(i, j int) {
		o := atoms.NewOnce()
		return func(i, j int) {
			b.note(i, func() func(int64) (int64, bool) {
				mine := int64(i*3 + j)
				got, first, e := o.Do(answers(mine))
				return func(n int64) (int64, bool) {
					if n < 0 {
						return mine, first && got == mine && e == api.OK
					}
					return n, !first && got == n && e == api.OK
				}
			})
		}
	})
}
