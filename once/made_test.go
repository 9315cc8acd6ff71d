package once_test

import (
	"errors"
	"math"
	"math/rand"
	"runtime"
	"slices"
	"strconv"
	"sync/atomic"
	"testing"
	"time"

	"dapple/api"
	"dapple/once"
)

// told is what Made answers.
type told struct {
	answers []int64
	errors  []api.Errno
	calls   []int
}

func made(workers, numbers int, f func(int) int64, asks []int) told {
	l, errs, calls := once.Made(workers, numbers, f, asks...)
	return told{l, errs, calls}
}

func (a told) is(b told) bool {
	return slices.Equal(a.answers, b.answers) && slices.Equal(a.errors, b.errors) && slices.Equal(a.calls, b.calls)
}

func (a told) isNothing() bool { return len(a.answers)+len(a.errors)+len(a.calls) == 0 }

// plainly is what Made answers, told once more: falls says for which numbers f does not answer.
func plainly(numbers int, f func(int) int64, falls func(int) bool, asks []int) told {
	out := told{make([]int64, len(asks)), make([]api.Errno, len(asks)), make([]int, numbers)}
	for i, n := range asks {
		switch {
		case n < 0 || n >= numbers:
			out.errors[i] = api.ErrOnceForm
			continue
		case falls(n):
			out.errors[i] = api.ErrOncePanic
		default:
			out.answers[i] = f(n)
		}
		out.calls[n] = 1
	}
	return out
}

func never(int) bool { return false }

// square is what most tests make.
func square(n int) int64 { return int64(n)*int64(n) + 1 }

// counted calls f, and counts for each number how often.
func counted(numbers int, f func(int) int64) (func(int) int64, []atomic.Int64) {
	calls := make([]atomic.Int64, numbers)
	return func(n int) int64 {
		calls[n].Add(1)
		return f(n)
	}, calls
}

// makes holds what Made answers against the plain one, and how often f is called.
func makes(t *testing.T, workers, numbers int, f func(int) int64, falls func(int) bool, asks ...int) {
	t.Helper()
	g, calls := counted(numbers, f)
	a, want := made(workers, numbers, g, asks), plainly(numbers, f, falls, asks)
	if !a.is(want) {
		t.Fatalf("Made by %d of %d, %.100v: %+v, not %+v", workers, numbers, asks, a, want)
	}
	for n := range calls {
		if int(calls[n].Load()) != want.calls[n] {
			t.Fatalf("Made by %d of %d, %.100v: f is called %d times for %d", workers, numbers, asks, calls[n].Load(), n)
		}
	}
}

// makesNothing sees that Made answers nothing, and does not call f.
func makesNothing(t *testing.T, workers, numbers int, asks ...int) {
	t.Helper()
	if a := made(workers, numbers, func(int) int64 { t.Error("f is called"); return 1 }, asks); !a.isNothing() {
		t.Errorf("Made by %d of %d, %d asks: something", workers, numbers, len(asks))
	}
}

// TestBoundsOfMade: of workers, numbers and asks.
func TestBoundsOfMade(t *testing.T) {
	for _, workers := range notSoMany() {
		makesNothing(t, workers, 3, 0, 1)
		makesNothing(t, workers, 0)
		makesNothing(t, workers, 65537, make([]int, 65537)...)
	}
	for _, numbers := range []int{-1, 65537, -65536, 1 << 32, 1<<32 + 1, math.MinInt, math.MaxInt} {
		makesNothing(t, 1, numbers, 0, 1)
		makesNothing(t, 16, numbers)
	}
	for _, asks := range []int{65537, 65538, 1 << 17} {
		makesNothing(t, 1, 3, make([]int, asks)...)
		makesNothing(t, 16, 65536, make([]int, asks)...)
		makesNothing(t, 16, 0, make([]int, asks)...)
	}
	eachMany(func(workers int) {
		makes(t, workers, 0, square, never)
		makes(t, workers, 0, square, never, 0, 1, -1)
		makes(t, workers, 1, square, never)
		makes(t, workers, 1, square, never, 0)
		makes(t, workers, 3, square, never, 1)
	})
}

// TestSoManyNumbers: 65536 of them, and 65536 asks.
func TestSoManyNumbers(t *testing.T) {
	r := rand.New(rand.NewSource(252))
	asks := make([]int, 65536)
	for _, workers := range []int{1, 2, 16} {
		makes(t, workers, 65536, square, never, r.Perm(65536)...)
		makes(t, workers, 65536, square, never)
		makes(t, workers, 65536, square, never, 65535, 65536, 0)
		makes(t, workers, 1, square, never, asks...)
		for i := range asks {
			asks[i] = r.Intn(70000) - 2000
		}
		makes(t, workers, 65536, square, never, asks...)
		makes(t, workers, 0, square, never, asks...)
		clear(asks)
	}
}

// TestWrongAsks: at their places, whatever stands beside; f is not called for them.
func TestWrongAsks(t *testing.T) {
	wrong := []int{-1, 5, 6, -5, 255, 65536, -65536, 1 << 32, 1<<32 + 1, math.MinInt, math.MaxInt}
	eachMany(func(workers int) {
		makes(t, workers, 5, square, never, wrong...)
		for _, n := range wrong {
			makes(t, workers, 5, square, never, n)
			makes(t, workers, 5, square, never, 4, n, 0, n, 4)
			makes(t, workers, 5, square, func(n int) bool { return n == 4 }, n, 0, n, n)
		}
	})
}

// falling are functions that do not answer, each in its own way.
func falling() map[string]func(n int) int64 {
	var none []int64
	var nowhere *int64
	var table map[int]int64
	var thing any = "text"
	return map[string]func(n int) int64{
		"a text":        func(n int) int64 { panic("falls") },
		"an error":      func(n int) int64 { panic(errors.New("falls")) },
		"api's error":   func(n int) int64 { panic(api.ErrArg) },
		"nil":           func(n int) int64 { panic(nil) },
		"a number":      func(n int) int64 { panic(n) },
		"beyond a list": func(n int) int64 { return none[n] },
		"nowhere":       func(n int) int64 { return *nowhere },
		"by nought":     func(n int) int64 { return 7 / int64(len(none)) },
		"into no map":   func(n int) int64 { table[n] = 1; return 1 },
		"another type":  func(n int) int64 { return thing.(int64) },
		"behind an answer": func(n int) (m int64) {
			m = 7
			defer func() { panic("falls") }()
			return 8
		},
		"twice": func(n int) int64 {
			defer func() { panic("falls again") }()
			panic("falls")
		},
		"the goroutine ends": func(n int) int64 { runtime.Goexit(); return 1 },
	}
}

// TestFalls: all who ask for a number for which f panics are told so, and it is not called again; other numbers are made.
func TestFalls(t *testing.T) {
	for name, fall := range falling() {
		t.Run(name, func(t *testing.T) {
			for _, every := range []int{1, 2, 5} {
				falls := func(n int) bool { return n%every == 0 }
				f := func(n int) int64 {
					if falls(n) {
						return fall(n)
					}
					return square(n)
				}
				eachMany(func(workers int) {
					for _, asks := range [][]int{{0}, {0, 0, 0}, {0, 1, 2, 3, 4, 5}, {7, 10, -1, 10, 3, 11, 7, 4}, slices.Repeat([]int{5, 4, 3, 10}, 20)} {
						g, calls := counted(11, f)
						if a, want := made(workers, 11, g, asks), plainly(11, square, falls, asks); !a.is(want) {
							t.Fatalf("by %d, %v: %+v, not %+v", workers, asks, a, want)
						}
						for n := range calls {
							if slices.Contains(asks, n) != (calls[n].Load() == 1) || calls[n].Load() > 1 {
								t.Fatalf("by %d, %v: called %d times for %d", workers, asks, calls[n].Load(), n)
							}
						}
					}
				})
			}
		})
	}
}

// TestPanicsWithin: one that f itself recovers is none.
func TestPanicsWithin(t *testing.T) {
	f := func(n int) (m int64) {
		defer func() {
			recover()
			m = square(n)
		}()
		panic("falls")
	}
	makes(t, 3, 5, f, never, 0, 4, 0, 5, 1)
}

// TestAnyAnswers: whatever f answers comes out, also what looks like none.
func TestAnyAnswers(t *testing.T) {
	values := []int64{0, -1, 1, 250, 251, math.MaxInt64, math.MinInt64}
	f := func(n int) int64 { return values[n] }
	eachMany(func(workers int) {
		makes(t, workers, len(values), f, never, 0, 1, 2, 3, 4, 5, 6, 6, 0)
	})
}

// TestDrawnAsks: with drawn numbers, asks and panics, by each number of workers and many times over: the same.
func TestDrawnAsks(t *testing.T) {
	onProcessors(func() {
		for seed := range int64(60) {
			r := rand.New(rand.NewSource(seed))
			numbers := r.Intn(60)
			asks := make([]int, r.Intn(300))
			for i := range asks {
				asks[i] = r.Intn(numbers+6) - 3
			}
			bad := 1 + r.Intn(8)
			falls := func(n int) bool { return n%bad == bad-1 }
			f := func(n int) int64 {
				for range n % 4 {
					runtime.Gosched()
				}
				if falls(n) {
					panic(n)
				}
				return square(n)
			}
			want := plainly(numbers, square, falls, asks)
			eachMany(func(workers int) {
				g, calls := counted(numbers, f)
				if a := made(workers, numbers, g, asks); !a.is(want) {
					t.Fatalf("by %d, of %d, %v: %+v, not %+v", workers, numbers, asks, a, want)
				}
				for n := range calls {
					if int(calls[n].Load()) != want.calls[n] {
						t.Fatalf("by %d, of %d, %v: called %d times for %d", workers, numbers, asks, calls[n].Load(), n)
					}
				}
			})
		}
	})
}

// TestAllAskForOne: while its f runs, all others wait for it, and are told the same.
func TestAllAskForOne(t *testing.T) {
	for _, falls := range []bool{false, true} {
		for range 50 {
			var calls atomic.Int64
			ended := false
			a := made(16, 1, func(n int) int64 {
				calls.Add(1)
				for range 100 {
					runtime.Gosched()
				}
				ended = true
				if falls {
					panic("falls")
				}
				return calls.Load()
			}, make([]int, 200))
			if calls.Load() != 1 || !ended || !slices.Equal(a.calls, []int{1}) {
				t.Fatal("calls", calls.Load(), a.calls)
			}
			for i := range a.answers {
				if falls && (a.answers[i] != 0 || a.errors[i] != api.ErrOncePanic) || !falls && (a.answers[i] != 1 || a.errors[i] != api.OK) {
					t.Fatal(i, a.answers[i], a.errors[i])
				}
			}
		}
	}
}

// TestAtOneTime: so many goroutines as there are workers make unlike numbers at one time, and no more.
func TestAtOneTime(t *testing.T) {
	eachMany(func(workers int) {
		var within, most, all atomic.Int64
		var alone atomic.Bool
		f := func(n int) int64 {
			now := within.Add(1)
			defer within.Add(-1)
			for was := most.Load(); now > was && !most.CompareAndSwap(was, now); was = most.Load() {
			}
			// The first ones wait for one another, and then a while for one who should not come.
			if all.Add(1) <= int64(workers) {
				if !soon(func() bool { return alone.Load() || all.Load() >= int64(workers) }) {
					alone.Store(true)
				}
				time.Sleep(5 * time.Millisecond)
			}
			return square(n)
		}
		asks := make([]int, 64)
		for i := range asks {
			asks[i] = i
		}
		if a := made(workers, 64, f, asks); !a.is(plainly(64, square, never, asks)) {
			t.Error(a)
		}
		if alone.Load() || most.Load() != int64(workers) {
			t.Fatalf("%d at one time, not %d", most.Load(), workers)
		}
	})
}

// TestWithin: an f may ask the package itself, also for another Made.
func TestWithin(t *testing.T) {
	c := once.New()
	f := func(n int) int64 {
		l, _, _ := once.Made(2, n+1, square, n, 0, n)
		c.Get("'s" + strconv.Itoa(n))
		return l[0]
	}
	makes(t, 4, 9, f, never, 8, 0, 5, 5, 8, 3)
	if c.Made() != 4 {
		t.Error("Made", c.Made())
	}
}

// TestChangedWithin: an f that has the list of asks itself, and writes into it, changes nothing of what is asked.
func TestChangedWithin(t *testing.T) {
	for _, workers := range []int{1, 4} {
		asks := slices.Repeat([]int{3, 0, 3, 2}, 10)
		want := plainly(4, square, never, asks)
		a := made(workers, 4, func(n int) int64 {
			if n == 3 {
				clear(asks)
			}
			return square(n)
		}, asks)
		if !a.is(want) {
			t.Errorf("by %d: %+v, not %+v", workers, a, want)
		}
	}
}
