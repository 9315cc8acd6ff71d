package atoms_test

import (
	"math"
	"math/rand"
	"runtime"
	"slices"
	"sync/atomic"
	"testing"

	"dapple/api"
	"dapple/atoms"
)

// stackOf is an empty stack of most.
func stackOf(t *testing.T, most int) *atoms.Stack {
	t.Helper()
	s, e := atoms.NewStack(most)
	if s == nil || e != api.OK {
		t.Fatal("a stack of", most, e)
	}
	return s
}

// emptied are the numbers of a stack, from the top on.
func emptied(s *atoms.Stack) []int64 {
	var out []int64
	for n, is := s.Pop(); is; n, is = s.Pop() {
		out = append(out, n)
	}
	return out
}

func TestStacksThatMayNotBe(t *testing.T) {
	for _, most := range []int{-1, 65537, -65536, math.MinInt, math.MaxInt, 1 << 32} {
		if s, e := atoms.NewStack(most); s != nil || e != api.ErrAtomsForm {
			t.Error("a stack of", most, s, e)
		}
	}
}

func TestStackFullAndEmpty(t *testing.T) {
	for _, most := range []int{0, 1, 2, 3, 1000, 65535, 65536} {
		s := stackOf(t, most)
		for turn := range 2 {
			if n, is := s.Pop(); n != 0 || is || s.Len() != 0 {
				t.Error(most, "an empty one gave", n, is)
			}
			for i := range most {
				if e := s.Push(int64(i + 5)); e != api.OK || s.Len() != i+1 {
					t.Fatal(most, "number", i, e, s.Len())
				}
			}
			for range 2 {
				if e := s.Push(99); e != api.ErrMuch || s.Len() != most {
					t.Error(most, "one more", e, s.Len())
				}
			}
			for i := most - 1; i >= 0; i-- {
				if n, is := s.Pop(); n != int64(i+5) || !is || s.Len() != i {
					t.Fatal(most, turn, "the top one", n, is, s.Len())
				}
			}
		}
		if n, is := s.Pop(); n != 0 || is || s.Len() != 0 {
			t.Error(most, "an emptied one gave", n, is)
		}
	}
}

func TestStacksKnowNothingOfOneAnother(t *testing.T) {
	s, o := stackOf(t, 1), stackOf(t, 1)
	s.Push(5)
	if o.Len() != 0 || o.Push(6) != api.OK {
		t.Error("another one is full")
	}
	if n, _ := s.Pop(); n != 5 {
		t.Error("another one's number", n)
	}
}

// TestStackIsAPlainList: a single goroutine is answered as by a plain list.
func TestStackIsAPlainList(t *testing.T) {
	for seed := range int64(50) {
		r := rand.New(rand.NewSource(seed))
		most := r.Intn(6)
		s, plain := stackOf(t, most), []int64{}
		for range 300 {
			if r.Intn(2) == 0 {
				n := edges()[r.Intn(len(edges()))]
				want := api.OK
				if len(plain) == most {
					want = api.ErrMuch
				} else {
					plain = append(plain, n)
				}
				if e := s.Push(n); e != want {
					t.Fatal("push", e, "not", want)
				}
			} else {
				want, there := int64(0), len(plain) > 0
				if there {
					want, plain = plain[len(plain)-1], plain[:len(plain)-1]
				}
				if n, is := s.Pop(); n != want || is != there {
					t.Fatal("pop", n, is, "not", want, there)
				}
			}
			if s.Len() != len(plain) {
				t.Fatal("length", s.Len(), "not", len(plain))
			}
		}
	}
}

// TestStackOfMany: a number that was pushed is popped once, or stands there; what was refused never comes.
func TestStackOfMany(t *testing.T) {
	for _, most := range []int{1, 3, 100, 65536} {
		s := stackOf(t, most)
		in, out := make([][]int64, goroutines), make([][]int64, goroutines)
		beside(goroutines, func(i int) {
			for j := range turns {
				n := int64(i*turns + j)
				if s.Push(n) == api.OK {
					in[i] = append(in[i], n)
				}
				if l := s.Len(); l < 0 || l > most {
					t.Error("so many stand on it:", l)
				}
				if j%3 == 0 {
					continue
				}
				if n, is := s.Pop(); is {
					out[i] = append(out[i], n)
				} else if n != 0 {
					t.Error("none is there, but", n)
				}
			}
		})
		left := emptied(s)
		if len(left) > most {
			t.Error("more than", most, "stood there")
		}
		pushed, popped := slices.Concat(in...), append(slices.Concat(out...), left...)
		slices.Sort(pushed)
		slices.Sort(popped)
		if !slices.Equal(pushed, popped) {
			t.Error(most, "numbers were lost, or came twice", len(pushed), len(popped))
		}
	}
}

// TestStackHasRoomForWhatWasTaken: who has taken a number can put it back, the stack is full at no moment in between; and
// as many are refused as there is no room for.
func TestStackHasRoomForWhatWasTaken(t *testing.T) {
	for range 20 {
		s := stackOf(t, goroutines)
		for i := range goroutines {
			s.Push(int64(i))
		}
		beside(goroutines, func(i int) {
			for range 300 {
				n, is := s.Pop()
				if !is {
					t.Error("there was a number for each")
				} else if e := s.Push(n); e != api.OK {
					t.Error("there was room for each", e)
				}
			}
		})
		left := emptied(s)
		slices.Sort(left)
		if !slices.Equal(left, []int64{0, 1, 2, 3, 4, 5, 6, 7}) {
			t.Fatal("left", left)
		}
	}
}

func TestStackRefusesManyJustSoOften(t *testing.T) {
	for range 200 {
		s := stackOf(t, 5)
		var ok, much atomic.Int64
		beside(goroutines, func(i int) {
			switch s.Push(int64(i)) {
			case api.OK:
				ok.Add(1)
			case api.ErrMuch:
				much.Add(1)
			}
		})
		if ok.Load() != 5 || much.Load() != goroutines-5 || s.Len() != 5 {
			t.Fatal("pushed", ok.Load(), "refused", much.Load(), "there", s.Len())
		}
	}
}

// TestStackAtOneMoment holds the calls of few goroutines against a plain list of two.
func TestStackAtOneMoment(t *testing.T) {
	eachAtOneMoment(t, []int64(nil), func(b *book[[]int64]) func(i, j int) {
		s := stackOf(t, 2)
		return func(i, j int) {
			b.note(i, func() func([]int64) ([]int64, bool) {
				switch (i + j) % 3 {
				case 0:
					n := int64(i*3 + j + 1)
					e := s.Push(n)
					return func(l []int64) ([]int64, bool) {
						if len(l) == 2 {
							return l, e == api.ErrMuch
						}
						return append(slices.Clone(l), n), e == api.OK
					}
				case 1:
					n, is := s.Pop()
					return func(l []int64) ([]int64, bool) {
						if len(l) == 0 {
							return l, n == 0 && !is
						}
						return l[: len(l)-1 : len(l)-1], is && n == l[len(l)-1]
					}
				}
				got := s.Len()
				return func(l []int64) ([]int64, bool) { return l, len(l) == got }
			})
		}
	})
}

// TestWhatWasPushedIsSeen: what was written ahead of a Push is seen by who pops it.
func TestWhatWasPushedIsSeen(t *testing.T) {
	const numbers = 500
	s, made := stackOf(t, 3), make([]int, 2*numbers)
	var ready, popped atomic.Int64
	beside(4, func(i int) {
		if i < 2 {
			defer ready.Add(1)
			for n := i * numbers; n < (i+1)*numbers; n++ {
				made[n] = n + 1
				if !pushedAtLast(s, int64(n)) {
					t.Error("there is never room for", n)
					return
				}
			}
			return
		}
		for {
			last := ready.Load() == 2
			n, is := s.Pop()
			if !is && last {
				return
			}
			if !is {
				runtime.Gosched()
			} else if popped.Add(1); made[n] != int(n)+1 {
				t.Error("not seen:", n)
			}
		}
	})
	if popped.Load() != 2*numbers {
		t.Error("popped", popped.Load())
	}
}

// pushedAtLast pushes n when there is room; false: there was none for so long that there will be none.
func pushedAtLast(s *atoms.Stack, n int64) bool {
	for range 10000000 {
		if s.Push(n) == api.OK {
			return true
		}
		runtime.Gosched()
	}
	return false
}
