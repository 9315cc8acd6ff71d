package names_test

import (
	"math/rand"
	"slices"
	"strconv"
	"sync/atomic"
	"testing"

	"dapple/api"
	"dapple/names"
)

// noted makes a call drawn by r on a table, and tells how a plain one would go on.
func noted(r *rand.Rand, table *names.Table) func() func(plain) (plain, bool) {
	s := []string{"a", "b", "c", "", "n0"}[r.Intn(5)]
	switch r.Intn(6) {
	case 0:
		return func() func(plain) (plain, bool) {
			n, ok := table.Find(s)
			return func(p plain) (plain, bool) {
				wantN, wantOk := p.find(s)
				return p, n == wantN && ok == wantOk
			}
		}
	case 1:
		n := r.Intn(3)
		return func() func(plain) (plain, bool) {
			s, ok := table.Name(n)
			return func(p plain) (plain, bool) {
				wantS, wantOk := p.name(n)
				return p, s == wantS && ok == wantOk
			}
		}
	case 2:
		return func() func(plain) (plain, bool) {
			n := table.Len()
			return func(p plain) (plain, bool) { return p, n == len(p) }
		}
	case 3:
		return func() func(plain) (plain, bool) {
			all := table.All()
			return func(p plain) (plain, bool) { return p, slices.Equal(all, p) }
		}
	}
	return func() func(plain) (plain, bool) {
		n, e := table.Intern(s)
		return func(p plain) (plain, bool) {
			next, wantN, wantE := p.intern(s)
			return next, n == wantN && e == wantE
		}
	}
}

// TestEachAtOneMoment is R7: of a table with room, and of one where the last number is left.
func TestEachAtOneMoment(t *testing.T) {
	for _, first := range [][]string{nil, {"x"}, unlike(4095)} {
		var round atomic.Int64
		eachAtOneMoment(t, plain(first), func(b *book[plain]) func(i, j int) {
			table := made(t, first...)
			var here atomic.Int64
			seed := round.Add(1)
			return func(i, j int) {
				call := noted(rand.New(rand.NewSource(seed*100+int64(i*10+j))), table)
				if j == 0 {
					meet(&here, 4)
				}
				b.note(i, call)
			}
		})
	}
}

// TestOneNumberForAll: goroutines that lay down the same names, each in another order, are told the same numbers.
func TestOneNumberForAll(t *testing.T) {
	const goroutines, many = 8, 300
	l := unlike(many)
	for range 5 {
		table := made(t)
		told := make([][many]int, goroutines)
		beside(goroutines, func(i int) {
			for _, k := range rand.New(rand.NewSource(int64(i))).Perm(many) {
				n, e := table.Intern(l[k])
				if found, ok := table.Find(l[k]); e != api.OK || found != n || !ok {
					t.Errorf("Intern: %d, %d; Find: %d, %t", n, e, found, ok)
				}
				if s, ok := table.Name(n); s != l[k] || !ok {
					t.Errorf("%d is the number of %q, %t, not of %q", n, s, ok, l[k])
				}
				told[i][k] = n
			}
		})
		var had [many]bool
		for k, n := range told[0] {
			if n < 0 || n >= many || had[n] {
				t.Fatalf("%d is the number of %s too", n, l[k])
			}
			had[n] = true
		}
		for i := range told {
			if told[i] != told[0] {
				t.Fatalf("goroutine %d was told other numbers", i)
			}
		}
		if table.Len() != many {
			t.Fatalf("there are %d", table.Len())
		}
	}
}

// TestNamesOfTheirOwn: of names that each goroutine lays down alone none is lost.
func TestNamesOfTheirOwn(t *testing.T) {
	const goroutines, many = 8, 60
	for range 20 {
		table := made(t)
		beside(goroutines, func(i int) {
			last := -1
			for j := range many {
				n, e := table.Intern(strconv.Itoa(i) + "-" + strconv.Itoa(j))
				if e != api.OK || n <= last {
					t.Errorf("%d, %d behind %d", n, e, last)
				}
				last = n
			}
		})
		all := table.All()
		if len(all) != goroutines*many || table.Len() != goroutines*many {
			t.Fatalf("there are %d, %d", len(all), table.Len())
		}
		plain(all).same(t, table)
		slices.Sort(all)
		if len(slices.Compact(all)) != goroutines*many {
			t.Fatal("two are alike")
		}
	}
}

// TestWhatThereIsStays: who looks on while others lay down names sees a table that only grows.
func TestWhatThereIsStays(t *testing.T) {
	for range 5 {
		table := made(t)
		var laying atomic.Int64
		laying.Store(4)
		beside(8, func(i int) {
			if i < 4 {
				for _, s := range unlike(400)[i*100 : i*100+100] {
					table.Intern(s)
				}
				laying.Add(-1)
				return
			}
			var was []string
			for laying.Load() > 0 && !t.Failed() {
				all := table.All()
				if len(all) < len(was) || !slices.Equal(all[:len(was)], was) || table.Len() < len(all) {
					t.Error("a table has lost what it had")
				}
				for n, s := range all[len(was):] {
					if got, ok := table.Find(s); got != len(was)+n || !ok {
						t.Errorf("%s, the number %d: %d, %t", s, len(was)+n, got, ok)
					}
				}
				was = all
			}
		})
	}
}

// TestTheLastNumbers: more goroutines than numbers are left.
func TestTheLastNumbers(t *testing.T) {
	for range 40 {
		table := made(t, unlike(4093)...)
		var got, refused atomic.Int64
		var here atomic.Int64
		beside(8, func(i int) {
			meet(&here, 8)
			n, e := table.Intern("mine" + strconv.Itoa(i))
			switch {
			case e == api.ErrNamesMuch && n == 0:
				refused.Add(1)
			case e == api.OK && n >= 4093 && n < 4096:
				got.Add(1)
			default:
				t.Errorf("%d, %d", n, e)
			}
		})
		if got.Load() != 3 || refused.Load() != 5 || table.Len() != 4096 {
			t.Fatalf("%d got a number, %d were refused, there are %d", got.Load(), refused.Load(), table.Len())
		}
	}
}

// TestTablesBesideOneAnother: goroutines each with a table of its own.
func TestTablesBesideOneAnother(t *testing.T) {
	beside(8, func(i int) {
		table, e := names.New("x" + strconv.Itoa(i))
		if e != api.OK {
			t.Error(e)
			return
		}
		for n, s := range unlike(100) {
			if got, e := table.Intern(s); got != n+1 || e != api.OK {
				t.Errorf("Intern %s: %d, %d", s, got, e)
			}
		}
		numbers, _ := table.Storm(3, "y", "x"+strconv.Itoa(i))
		if !slices.Equal(numbers, []int{101, 0}) {
			t.Error(numbers)
		}
	})
}
