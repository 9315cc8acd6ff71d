package once_test

import (
	"math"
	"math/rand"
	"slices"
	"strconv"
	"testing"

	"dapple/api"
	"dapple/once"
)

// notSoMany are numbers of workers that may not be.
func notSoMany() []int {
	return []int{0, 17, -1, -16, 18, 32, 256, 257, 1 << 16, 1<<32 + 1, math.MinInt, math.MaxInt}
}

// eachMany does something for each number of workers that may be.
func eachMany(do func(workers int)) {
	for workers := 1; workers <= api.MaxWorkers; workers++ {
		do(workers)
	}
}

// refusesAll sees that All answers nothing, and has made nothing.
func refusesAll(t *testing.T, workers int, sources ...string) {
	t.Helper()
	c, p := once.New(), newPlain()
	gets(t, c, p, "'mine")
	if l, errs := c.All(workers, sources...); len(l) > 0 || len(errs) > 0 {
		t.Errorf("All by %d of %d: %d codes, %d errors", workers, len(sources), len(l), len(errs))
	}
	counts(t, c, p)
	gets(t, c, p, "'other")
	counts(t, c, p)
}

// TestWorkersOfAll: 1 to 16 may be, all others not, and then nothing is made.
func TestWorkersOfAll(t *testing.T) {
	for _, workers := range notSoMany() {
		refusesAll(t, workers)
		refusesAll(t, workers, "'a", "(", "'mine")
	}
	eachMany(func(workers int) {
		c, p := once.New(), newPlain()
		getsAll(t, c, p, workers, []string{"'b", "'a"})
		counts(t, c, p)
	})
}

// TestNoSources: nothing is made, and nothing is told of it.
func TestNoSources(t *testing.T) {
	eachMany(func(workers int) {
		c, p := once.New(), newPlain()
		getsAll(t, c, p, workers, nil)
		getsAll(t, c, p, workers, []string{})
		counts(t, c, p)
		gets(t, c, p, "'a")
		getsAll(t, c, p, workers, nil)
		counts(t, c, p)
	})
}

// TestSoManySources: 65536 may be, unlike ones and the same, one more not.
func TestSoManySources(t *testing.T) {
	var unlike []string
	for i := range 65537 {
		unlike = append(unlike, "'(s"+strconv.Itoa(i%5000)+" . "+strconv.Itoa(i)+")")
	}
	same := slices.Repeat([]string{"'a", "(", "'b", "'a"}, 16385)[:65537]
	for _, workers := range []int{1, 2, 16} {
		for _, l := range [][]string{unlike, same} {
			refusesAll(t, workers, l...)
			c, p := once.New(), newPlain()
			getsAll(t, c, p, workers, l[:65536])
			counts(t, c, p)
			getsAll(t, c, p, workers, l[:65536])
			counts(t, c, p)
		}
	}
}

// TestAllAsOneBehindTheOther: drawn sources, some of which were got ahead, by each number of workers: what is told, and which
// numbers symbols have, is what it would be of one who gets them one behind the other.
func TestAllAsOneBehindTheOther(t *testing.T) {
	onProcessors(func() {
		for seed := range int64(25) {
			r := rand.New(rand.NewSource(seed))
			ahead, l, later := drawnSources(r, 6), drawnSources(r, 60), drawnSources(r, 6)
			eachMany(func(workers int) {
				c, p := once.New(), newPlain()
				for _, s := range ahead {
					gets(t, c, p, s)
				}
				getsAll(t, c, p, workers, append(l, ahead...))
				counts(t, c, p)
				getsAll(t, c, p, 17-workers, append(l, later...))
				counts(t, c, p)
				for _, s := range append(ahead, l...) {
					gets(t, c, p, s)
				}
			})
		}
	})
}

// TestLongAndShort: sources that take long, ahead of and among such as take little: who has done first is not seen.
func TestLongAndShort(t *testing.T) {
	var l []string
	for i := range 40 {
		if i%8 == 0 {
			l = append(l, quotes("long"+strconv.Itoa(i)+"-", 0, 200))
		}
		l = append(l, "'"+string(rune('a'+(i*11)%26))+strconv.Itoa(i%3))
	}
	onProcessors(func() {
		eachMany(func(workers int) {
			c, p := once.New(), newPlain()
			getsAll(t, c, p, workers, l)
			counts(t, c, p)
		})
	})
}

// TestManyTimes: the same is told, as often as the same is asked of new codes.
func TestManyTimes(t *testing.T) {
	l := []string{quotes("x", 0, 60), "'b", "(", "'a", "'(x7 z y)", "1 (if)", "'b", "'(y c)", tooMuch("'d"), "'e", "'(e d)"}
	for i := range 400 {
		c, p := once.New(), newPlain()
		gets(t, c, p, "'y")
		getsAll(t, c, p, 1+i%16, l)
		counts(t, c, p)
	}
}

// TestFullTableOfAll: which ones are refused, as there is room for two names more, is by their order.
func TestFullTableOfAll(t *testing.T) {
	l := []string{"'n5", quotes("n", 0, 900), "'x", "(if)", "'(y z)", "'x", "'z", "'w", "'n6 'v", "'y", "(", "'n9", "'(x y)"}
	for _, workers := range []int{1, 4, 16} {
		c, p := once.New(), newPlain()
		fill(t, c, p, 4094)
		getsAll(t, c, p, workers, l)
		counts(t, c, p)
		if names := c.Names(); len(names) != 4096 || names[4094] != "x" || names[4095] != "y" {
			t.Fatal(len(names))
		}
		if _, errs := c.All(workers, l...); !slices.Equal(errs, []api.Errno{0, 0, 0, api.ErrFormsForm, api.ErrNamesMuch, 0, api.ErrNamesMuch, api.ErrNamesMuch, api.ErrNamesMuch, 0, api.ErrReadForm, 0, 0}) {
			t.Error(errs)
		}
	}
}

// TestWrongOnesAmongOthers: each wrong source's error, without its place; what is behind it is made.
func TestWrongOnesAmongOthers(t *testing.T) {
	var l []string
	var want []api.Errno
	for i, w := range wrongs() {
		l = append(l, "'ahead"+strconv.Itoa(i), w.source)
		want = append(want, api.OK, w.e)
	}
	for _, workers := range []int{1, 2, 7, 16} {
		c, p := once.New(), newPlain()
		if _, errs := c.All(workers, l...); !slices.Equal(errs, want) {
			t.Error(errs, want)
		}
		getsAll(t, c, p, workers, l)
		counts(t, c, p)
		for _, w := range wrongs() {
			gets(t, c, p, w.source)
		}
		counts(t, c, p)
	}
}
