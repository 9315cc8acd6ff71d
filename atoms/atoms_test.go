package atoms_test

import (
	"math"
	"math/rand"
	"runtime"
	"slices"
	"sync/atomic"
	"testing"

	"dapple/atoms"
)

const (
	goroutines = 8
	turns      = 2000
)

// edges are numbers at which something might go wrong.
func edges() []int64 {
	return []int64{math.MinInt64, math.MinInt64 + 1, -1 << 32, -7, -1, 0, 1, 5, 1 << 31, 1 << 32, math.MaxInt64 - 1, math.MaxInt64}
}

func TestCounter(t *testing.T) {
	for _, n := range edges() {
		for _, d := range edges() {
			c := atoms.NewCounter(n)
			if c.Load() != n {
				t.Error("begins with", c.Load(), "not", n)
			}
			if got := c.Add(d); got != n+d || c.Load() != n+d {
				t.Error(n, "and", d, "come to", got, c.Load())
			}
			if got := c.Add(1); got != n+d+1 || c.Load() != n+d+1 {
				t.Error(n, "and", d, "and 1 come to", got, c.Load())
			}
		}
	}
}

func TestCounterGoesRound(t *testing.T) {
	up, down := atoms.NewCounter(9223372036854775807), atoms.NewCounter(-9223372036854775808)
	if n := up.Add(1); n != -9223372036854775808 || up.Load() != n {
		t.Error("up", n, up.Load())
	}
	if n := down.Add(-1); n != 9223372036854775807 || down.Load() != n {
		t.Error("down", n, down.Load())
	}
}

func TestThingsKnowNothingOfOneAnother(t *testing.T) {
	c, d := atoms.NewCounter(1), atoms.NewCounter(1)
	c.Add(5)
	m, n := atoms.NewMax(1), atoms.NewMax(1)
	m.Raise(5)
	f, g := atoms.NewFlag(), atoms.NewFlag()
	f.Set()
	k, l := atoms.NewTicket(), atoms.NewTicket()
	k.Take()
	if d.Load() != 1 || n.Load() != 1 || g.Is() || !g.Set() || l.Taken() != 0 || l.Take() != 0 {
		t.Error("a thing was changed through another one")
	}
}

// TestCounterOfMany: Adds of one sign tell numbers of which none comes twice; the counter has the sum.
func TestCounterOfMany(t *testing.T) {
	for _, begin := range []int64{0, math.MaxInt64 - 100, math.MinInt64 + 100} {
		for _, d := range []int64{1, -1, 3} {
			c, told := atoms.NewCounter(begin), make([][]int64, goroutines)
			beside(goroutines, func(i int) {
				for range turns {
					told[i] = append(told[i], c.Add(d))
				}
			})
			seen := map[int64]bool{}
			for _, row := range told {
				for _, n := range row {
					seen[n] = true
				}
			}
			for i := range int64(goroutines * turns) {
				if !seen[begin+(i+1)*d] {
					t.Fatal("from", begin, "by", d, "nobody was told", begin+(i+1)*d)
				}
			}
			if len(seen) != goroutines*turns || c.Load() != begin+goroutines*turns*d {
				t.Error("from", begin, "by", d, "come", len(seen), "numbers, up to", c.Load())
			}
		}
	}
}

func TestCounterOfManyBothWays(t *testing.T) {
	c := atoms.NewCounter(7)
	beside(goroutines, func(i int) {
		for j := range int64(turns) {
			c.Add(j * int64(1-2*(i%2)))
		}
	})
	if c.Load() != 7 {
		t.Error("what was added and taken away leaves", c.Load())
	}
}

func TestFlag(t *testing.T) {
	f := atoms.NewFlag()
	if f.Is() || f.Is() {
		t.Error("set from the beginning")
	}
	if !f.Set() || !f.Is() {
		t.Error("the first Set")
	}
	for range 3 {
		if f.Set() || !f.Is() {
			t.Error("another Set")
		}
	}
}

// TestFlagOfMany: just one Set is the first, and it is set behind each of them.
func TestFlagOfMany(t *testing.T) {
	const flags = 4000
	f, firsts := make([]*atoms.Flag, flags), make([]atomic.Int64, flags)
	for i := range f {
		f[i] = atoms.NewFlag()
	}
	var here atomic.Int64
	beside(4, func(int) {
		for i := range f {
			meet(&here, int64(i+1)*4)
			if f[i].Set() {
				firsts[i].Add(1)
			}
			if !f[i].Is() {
				t.Error("not set behind a Set")
			}
		}
	})
	for i := range firsts {
		if firsts[i].Load() != 1 {
			t.Fatal("so many were the first:", firsts[i].Load())
		}
	}
}

func TestMax(t *testing.T) {
	for _, n := range edges() {
		for _, to := range edges() {
			m := atoms.NewMax(n)
			if m.Load() != n {
				t.Error("begins with", m.Load(), "not", n)
			}
			if rose := m.Raise(to); rose != (to > n) || m.Load() != max(n, to) {
				t.Error(n, "raised to", to, "rose", rose, "is", m.Load())
			}
			if m.Raise(to) || m.Load() != max(n, to) {
				t.Error(n, "raised to", to, "twice")
			}
		}
	}
}

// TestMaxOfMany: it has the greatest; each number rose at most once, and for each goroutine they rise.
func TestMaxOfMany(t *testing.T) {
	for seed := range int64(20) {
		m, rose := atoms.NewMax(-5), make([][]int64, goroutines)
		beside(goroutines, func(i int) {
			r := rand.New(rand.NewSource(seed*goroutines + int64(i)))
			for j := range int64(turns) {
				n := j + r.Int63n(50)
				if m.Raise(n) {
					rose[i] = append(rose[i], n)
				}
				if m.Load() < n {
					t.Error("less than what it was raised to")
				}
			}
			m.Raise(turns + 100)
		})
		all := slices.Concat(rose...)
		slices.Sort(all)
		if len(slices.Compact(slices.Clone(all))) != len(all) {
			t.Fatal("a number rose twice")
		}
		for _, row := range rose {
			if !slices.IsSorted(row) {
				t.Fatal("what rose does not rise")
			}
		}
		if m.Load() != turns+100 {
			t.Fatal("the greatest", m.Load())
		}
	}
}

func TestTicket(t *testing.T) {
	k := atoms.NewTicket()
	for i := range uint64(1000) {
		if k.Taken() != i || k.Take() != i || k.Taken() != i+1 {
			t.Fatal("ticket", i)
		}
	}
}

// TestTicketOfMany: tickets are 0 to Taken less 1, each one's.
func TestTicketOfMany(t *testing.T) {
	k, told := atoms.NewTicket(), make([][]uint64, goroutines)
	beside(goroutines, func(i int) {
		for range turns {
			n := k.Take()
			told[i] = append(told[i], n)
			if k.Taken() <= n {
				t.Error("fewer are taken than this one's number")
			}
		}
	})
	all := slices.Concat(told...)
	slices.Sort(all)
	for i, n := range all {
		if n != uint64(i) {
			t.Fatal("a ticket came twice, or not", i, n)
		}
	}
	if k.Taken() != goroutines*turns {
		t.Error("taken", k.Taken())
	}
}

func TestCounterAtOneMoment(t *testing.T) {
	eachAtOneMoment(t, int64(5), func(b *book[int64]) func(i, j int) {
		c := atoms.NewCounter(5)
		return func(i, j int) {
			b.note(i, func() func(int64) (int64, bool) {
				if j == 1 {
					got := c.Load()
					return func(n int64) (int64, bool) { return n, n == got }
				}
				d := int64(i*3+j) - 4
				got := c.Add(d)
				return func(n int64) (int64, bool) { return n + d, n+d == got }
			})
		}
	})
}

func TestFlagAtOneMoment(t *testing.T) {
	eachAtOneMoment(t, false, func(b *book[bool]) func(i, j int) {
		f := atoms.NewFlag()
		return func(i, j int) {
			b.note(i, func() func(bool) (bool, bool) {
				if j != i%3 {
					got := f.Is()
					return func(is bool) (bool, bool) { return is, is == got }
				}
				first := f.Set()
				return func(is bool) (bool, bool) { return true, is != first }
			})
		}
	})
}

func TestMaxAtOneMoment(t *testing.T) {
	eachAtOneMoment(t, int64(0), func(b *book[int64]) func(i, j int) {
		m := atoms.NewMax(0)
		return func(i, j int) {
			b.note(i, func() func(int64) (int64, bool) {
				if j == 1 {
					got := m.Load()
					return func(n int64) (int64, bool) { return n, n == got }
				}
				to := int64((i*5+j)%7 - 1)
				rose := m.Raise(to)
				return func(n int64) (int64, bool) { return max(n, to), rose == (to > n) }
			})
		}
	})
}

func TestTicketAtOneMoment(t *testing.T) {
	eachAtOneMoment(t, uint64(0), func(b *book[uint64]) func(i, j int) {
		k := atoms.NewTicket()
		return func(i, j int) {
			b.note(i, func() func(uint64) (uint64, bool) {
				if j == 1 {
					got := k.Taken()
					return func(n uint64) (uint64, bool) { return n, n == got }
				}
				got := k.Take()
				return func(n uint64) (uint64, bool) { return n + 1, n == got }
			})
		}
	})
}

// TestWhatWasMadeIsSeen: what was written ahead of an Add, a Set, a Raise, a Take is seen by who hears of it.
func TestWhatWasMadeIsSeen(t *testing.T) {
	for range 200 {
		c, f, m, k := atoms.NewCounter(0), atoms.NewFlag(), atoms.NewMax(0), atoms.NewTicket()
		var made [4]int
		beside(2, func(i int) {
			if i == 0 {
				made[0] = 1
				c.Add(1)
				made[1] = 2
				f.Set()
				made[2] = 3
				m.Raise(1)
				made[3] = 4
				k.Take()
				return
			}
			heard := []func() bool{func() bool { return c.Load() == 1 }, f.Is, func() bool { return m.Load() == 1 }, func() bool { return k.Taken() == 1 }}
			for j, is := range heard {
				for !is() {
					runtime.Gosched()
				}
				if made[j] != j+1 {
					t.Error("not seen:", j)
				}
			}
		})
	}
}
