package once_test

import (
	"math/rand"
	"slices"
	"strconv"
	"strings"
	"sync/atomic"
	"testing"

	"dapple/api"
	"dapple/once"
	"dapple/words"
)

// TestManyGetOne: a source that takes long, asked for by many at one time: all are told the same, and it is made once.
func TestManyGetOne(t *testing.T) {
	onProcessors(func() {
		for round := range 40 {
			source := quotes("s", 0, 150)
			want := newPlain()
			switch round % 4 {
			case 1:
				source += "(if)"
			case 2:
				source += ")"
			case 3:
				source = tooMuch("'a") + source
			}
			want.get(source)
			c := once.New()
			var here atomic.Int64
			beside(16, func(int) {
				meet(&here, 16)
				o := got(c, source)
				if made := c.Made(); made != 1 {
					t.Error("Made behind a Get:", made)
				}
				if !o.is(want.known[source]) {
					t.Errorf("told %d, %d", o.e, o.place)
				}
				if !slices.Equal(c.Names(), want.table.All()) {
					t.Error("Names behind a Get:", len(c.Names()))
				}
			})
			counts(t, c, want)
		}
	})
}

// TestManyGetUnlike: each goroutine asks for all sources, in an order of its own: each source is made once, its symbols have numbers
// one behind the other, and all are told what one would be told who gets them in the order in which they came first.
func TestManyGetUnlike(t *testing.T) {
	const sources = 50
	var l []string
	for i := range sources {
		l = append(l, quotes("s"+strconv.Itoa(i)+"-", 0, 1+i%7))
	}
	l = append(l, "(", "1 (if)", "x", tooMuch("1"))
	for round := range 30 {
		c := once.New()
		told := make([][]outcome, 8)
		beside(len(told), func(i int) {
			told[i] = make([]outcome, len(l))
			for _, k := range rand.New(rand.NewSource(int64(round*8 + i))).Perm(len(l)) {
				told[i][k] = got(c, l[k])
			}
		})
		p := newPlain()
		for _, name := range c.Names() {
			k, _, _ := strings.Cut(strings.TrimPrefix(name, "s"), "-")
			n, _ := strconv.Atoi(k)
			p.get(l[n])
		}
		for _, s := range l {
			p.get(s)
		}
		counts(t, c, p)
		for i := range told {
			for k, o := range told[i] {
				if !o.is(p.get(l[k])) {
					t.Fatalf("goroutine %d was told of %q: %+v", i, l[k], o)
				}
			}
		}
	}
}

// TestGetIsWhole: who looks on sees of a source all symbols or none, and as many sources as that is.
func TestGetIsWhole(t *testing.T) {
	const symbols, sources = 40, 10
	for range 5 {
		c := once.New()
		var left atomic.Int64
		left.Store(4)
		beside(8, func(i int) {
			if i < 4 {
				for k := range sources {
					c.Get(quotes("s"+strconv.Itoa(i*sources+k)+"-", 0, symbols))
				}
				left.Add(-1)
				return
			}
			for left.Load() > 0 && !t.Failed() {
				ahead := c.Made()
				names := len(c.Names())
				behind := c.Made()
				if names%symbols != 0 || names/symbols < ahead || names/symbols > behind {
					t.Errorf("%d made, %d names, %d made", ahead, names, behind)
				}
			}
		})
		if c.Made() != 4*sources {
			t.Fatal("Made", c.Made())
		}
	}
}

// TestAllIsWhole: beside others' Gets, All is as if done at one moment: its symbols have numbers one behind the other, and who looks on
// sees it made, or not.
func TestAllIsWhole(t *testing.T) {
	const sources = 100
	var l, names []string
	for i := range sources {
		l = append(l, quotes("all"+strconv.Itoa(i)+"-", 0, 5))
		names = append(names, quoted("all"+strconv.Itoa(i)+"-", 0, 5)...)
	}
	for round := range 20 {
		c := once.New()
		var done atomic.Int64
		beside(7, func(i int) {
			switch i {
			case 0:
				c.All(1+round%16, l...)
				done.Add(1)
			case 1, 2, 3:
				for k := 0; done.Load() == 0 && k < 200; k++ {
					c.Get("'other" + strconv.Itoa(i*200+k))
				}
			case 4, 5:
				for done.Load() == 0 && !t.Failed() {
					seen := c.Names()
					if at := slices.Index(seen, names[0]); at >= 0 && (at+len(names) > len(seen) || !slices.Equal(seen[at:at+len(names)], names)) {
						t.Error("some of All's names are there, others not")
					}
				}
			case 6:
				was := 0
				for done.Load() == 0 && !t.Failed() {
					made := c.Made()
					others := len(slices.DeleteFunc(c.Names(), func(s string) bool { return strings.HasPrefix(s, "all") }))
					if made > others && made < sources {
						t.Errorf("%d made, and %d names of others", made, others)
					}
					if made < was {
						t.Error("fewer than there were")
					}
					was = made
				}
			}
		})
		seen := c.Names()
		at := slices.Index(seen, names[0])
		if at < 0 || !slices.Equal(seen[at:at+len(names)], names) {
			t.Fatal("others' names stand in between")
		}
		if c.Made() != sources+len(seen)-len(names) {
			t.Fatal("Made", c.Made())
		}
	}
}

// TestAllsBesideOneAnother: lists that have the same sources in other orders, asked for at one time: none waits for ever, and what is
// told is what it is where one of them is done ahead of the other one.
func TestAllsBesideOneAnother(t *testing.T) {
	for round := range 200 {
		r := rand.New(rand.NewSource(int64(round)))
		a := drawnSources(r, 30)
		b := slices.Clone(a)
		slices.Reverse(b)
		b = append(b, drawnSources(r, 5)...)
		lists := [][]string{a, b}
		c := once.New()
		var told [2][]api.Code
		var here atomic.Int64
		beside(2, func(i int) {
			meet(&here, 2)
			told[i], _ = c.All(1+(round+i*7)%16, lists[i]...)
		})
		p := newPlain()
		first := 0
		for _, s := range a {
			p.get(s)
		}
		if names := p.table.All(); !slices.Equal(names, c.Names()[:len(names)]) {
			first, p = 1, newPlain()
		}
		for _, i := range []int{first, 1 - first} {
			getsAll(t, c, p, 3, lists[i])
			for k, s := range lists[i] {
				if !(outcome{told[i][k], p.get(s).e, p.get(s).place}).is(p.get(s)) {
					t.Fatalf("told of %q: %+v", s, told[i][k])
				}
			}
		}
		counts(t, c, p)
	}
}

// row is what codes have that were asked for sources that quote a symbol or two: these sources, in the order in which they were made.
type row []string

// get is the row when a source has been got.
func (r row) get(source string) row {
	if slices.Contains(r, source) {
		return r
	}
	return append(r[:len(r):len(r)], source)
}

// names are the symbols that it has.
func (r row) names() []string {
	var out []string
	for _, source := range r {
		for _, s := range symbolsOf(source) {
			if !slices.Contains(out, s) {
				out = append(out, s)
			}
		}
	}
	return out
}

// symbolsOf are those that a source has.
func symbolsOf(source string) []string { return strings.Fields(strings.Trim(source, "'()")) }

// isOf tells whether code is what a source of it comes to: its constants are the symbols' numbers.
func (r row) isOf(source string, c api.Code) bool {
	names := r.names()
	want := symbolsOf(source)
	if len(c.Consts) < len(want) {
		return false
	}
	for i, s := range want {
		tag, n, ok := words.Of(c.Consts[i])
		if !ok || tag != api.TagSymbol || int(n) != slices.Index(names, s) {
			return false
		}
	}
	return true
}

// noted makes a call drawn by r on codes, and tells how a plain row would go on.
func noted(r *rand.Rand, c *once.Codes) func() func(row) (row, bool) {
	pool := []string{"'a", "'(b c)", "'(c a)", "'(d b)", "'c", "'(e d)"}
	switch r.Intn(6) {
	case 0:
		return func() func(row) (row, bool) {
			made := c.Made()
			return func(p row) (row, bool) { return p, made == len(p) }
		}
	case 1:
		return func() func(row) (row, bool) {
			names := c.Names()
			return func(p row) (row, bool) { return p, slices.Equal(names, p.names()) }
		}
	case 2, 3:
		var l []string
		for _, k := range r.Perm(len(pool))[:3] {
			l = append(l, pool[k])
		}
		workers := 1 + r.Intn(4)
		return func() func(row) (row, bool) {
			told, _ := c.All(workers, l...)
			return func(p row) (row, bool) {
				for _, s := range l {
					p = p.get(s)
				}
				for i, s := range l {
					if !p.isOf(s, told[i]) {
						return p, false
					}
				}
				return p, true
			}
		}
	}
	source := pool[r.Intn(len(pool))]
	return func() func(row) (row, bool) {
		told, _, _ := c.Get(source)
		return func(p row) (row, bool) {
			p = p.get(source)
			return p, p.isOf(source, told)
		}
	}
}

// TestEachAtOneMoment is R7: of calls of all kinds.
func TestEachAtOneMoment(t *testing.T) {
	eachAtOneMoment(t, 1500, row(nil), func(n int, b *book[row]) func(i, j int) {
		c := once.New()
		return func(i, j int) {
			b.note(i, noted(rand.New(rand.NewSource(int64(n*100+i*10+j))), c))
		}
	})
}

// TestCodesBesideOneAnother: goroutines each with codes of its own (R4).
func TestCodesBesideOneAnother(t *testing.T) {
	beside(8, func(i int) {
		r := rand.New(rand.NewSource(int64(i)))
		c, p := once.New(), newPlain()
		for range 100 {
			source := drawnSource(r)
			if o := got(c, source); !o.is(p.get(source)) {
				t.Errorf("%q: %+v", source, o)
			}
		}
		if !slices.Equal(c.Names(), p.table.All()) || c.Made() != len(p.known) {
			t.Error(c.Names(), c.Made())
		}
	})
}
