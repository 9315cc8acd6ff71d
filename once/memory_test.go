package once_test

import (
	"cmp"
	"math/rand"
	"runtime"
	"slices"
	"strconv"
	"strings"
	"testing"
	"unsafe"

	"dapple/api"
	"dapple/once"
)

// span is where a list's memory begins and ends, with the room behind it.
type span struct{ from, to uintptr }

// spanOf is a list's; nothing, if it has no memory.
func spanOf[T any](l []T) []span {
	if cap(l) == 0 {
		return nil
	}
	var one T
	from := uintptr(unsafe.Pointer(unsafe.SliceData(l)))
	return []span{{from, from + uintptr(cap(l))*unsafe.Sizeof(one)}}
}

// spansOf are those of all lists of code.
func spansOf(l ...api.Code) []span {
	var out []span
	for _, c := range l {
		out = slices.Concat(out, spanOf(c.Consts), spanOf(c.Procs), spanOf(c.Globals))
		for _, p := range c.Procs {
			out = append(out, spanOf(p.Code)...)
		}
	}
	return out
}

// apart tells whether no two have memory in common.
func apart(all []span) bool {
	slices.SortFunc(all, func(s, u span) int { return cmp.Compare(s.from, u.from) })
	for i := 1; i < len(all); i++ {
		if all[i].from < all[i-1].to {
			return false
		}
	}
	return true
}

// over lays another one over all of a list, and into the room behind it.
func over[T any](l []T, one T) {
	for i := range l[:cap(l)] {
		l[:cap(l)][i] = one
	}
}

// overCode writes over all that code has.
func overCode(c api.Code) {
	over(c.Consts, 99)
	for _, p := range c.Procs {
		over(p.Code, api.Instr{Op: api.OpYield, A: 9})
	}
	over(c.Procs, api.Proc{Params: 7})
	over(c.Globals, "written")
}

// TestCodeWrittenOver: what its owner does with code that came out, of Get and of All, and with the room behind its lists, is not seen by
// whoever gets it again, nor by who has got it; also of the first one, for whom it was made.
func TestCodeWrittenOver(t *testing.T) {
	r := rand.New(rand.NewSource(253))
	for range 60 {
		c, p := once.New(), newPlain()
		l := append(drawnSources(r, 12), wells()[8][0], wells()[10][0])
		first := make([]api.Code, len(l))
		for i, s := range l[:len(l)/2] {
			first[i], _, _ = c.Get(s)
			overCode(first[i])
			gets(t, c, p, s)
		}
		second, _ := c.All(1+r.Intn(16), l...)
		kept, errs := c.All(1+r.Intn(16), l...)
		for i, s := range l {
			p.get(s)
			overCode(second[i])
		}
		for i, s := range l {
			if o := p.get(s); !o.is(outcome{kept[i], errs[i], o.place}) {
				t.Fatalf("%q: %+v is written over", s, kept[i])
			}
			gets(t, c, p, s)
		}
		over(second, api.Code{Consts: []api.Word{9}})
		over(errs, 77)
		over(c.Names(), "written")
		getsAll(t, c, p, 3, l)
		counts(t, c, p)
	}
}

// TestMadeWrittenOver: nor is it of what Made tells.
func TestMadeWrittenOver(t *testing.T) {
	asks := []int{2, 0, 2, 5, 1}
	first, second := made(3, 4, square, asks), made(3, 4, square, asks)
	over(first.answers, 77)
	over(first.errors, 77)
	over(first.calls, 77)
	want := plainly(4, square, never, []int{2, 0, 2, 5, 1})
	if !second.is(want) || !made(3, 4, square, asks).is(want) || !slices.Equal(asks, []int{2, 0, 2, 5, 1}) {
		t.Error(second, asks)
	}
}

// TestNothingIsShared: no two lists that came out, of one call or of several, have memory in common, nor with what was handed in (R2).
func TestNothingIsShared(t *testing.T) {
	if l := []int{1, 2, 3}; apart(slices.Concat(spanOf(l[:1]), spanOf(l[2:]))) || !apart(slices.Concat(spanOf(l[:1:1]), spanOf(l[1:]))) {
		t.Fatal("what is shared is not seen")
	}
	r := rand.New(rand.NewSource(254))
	lists := 0
	for range 30 {
		c := once.New()
		sources := drawnSources(r, 20)
		asks := []int{0, 1, 1, 0, 9}
		all := slices.Concat(spanOf(sources), spanOf(asks))
		kept := []any{sources, asks}
		for range 3 {
			for _, s := range sources {
				code, _, _ := c.Get(s)
				all, kept = append(all, spansOf(code)...), append(kept, code)
			}
			l, errs := c.All(1+r.Intn(16), sources...)
			names := c.Names()
			m := made(1+r.Intn(16), 3, square, asks)
			all = slices.Concat(all, spansOf(l...), spanOf(l), spanOf(errs), spanOf(names), spanOf(m.answers), spanOf(m.errors), spanOf(m.calls))
			kept = append(kept, l, errs, names, m)
		}
		if !apart(all) {
			t.Fatalf("%q: memory is shared", sources)
		}
		lists += len(all)
		// A list that nobody has any more may have left its memory to a later one.
		runtime.KeepAlive(kept)
	}
	if lists < 1000 {
		t.Errorf("only %d lists", lists)
	}
}

// TestHandedInStays: neither lists that are handed in nor the room behind them are changed or read, whether a call refuses or not (R2, R10).
func TestHandedInStays(t *testing.T) {
	r := rand.New(rand.NewSource(255))
	for range 100 {
		sources := append(drawnSources(r, 20), "'behind", "(")
		asks := []int{3, -1, 2, 2, 0, 4, 0, 1}
		sources2, asks2 := slices.Clone(sources), slices.Clone(asks)
		c, p := once.New(), newPlain()
		workers := 1 + r.Intn(16)
		getsAll(t, c, p, workers, sources[:len(sources)-2])
		counts(t, c, p)
		c.All(17*r.Intn(2), sources[:len(sources)-2]...)
		if a := made(workers, 4, square, asks[:6]); !a.is(plainly(4, square, never, asks2[:6])) {
			t.Error(a)
		}
		made(17, 4, square, asks[:6])
		if !slices.Equal(sources, sources2) || !slices.Equal(asks, asks2) {
			t.Fatal("changed:", sources, asks)
		}
	}
}

// TestNotKept: what becomes of lists that were handed in is not seen by later calls.
func TestNotKept(t *testing.T) {
	c, p := once.New(), newPlain()
	l := []string{"'b", "(", "'a", "x"}
	codes, errs := c.All(4, l...)
	for _, s := range l {
		p.get(s)
	}
	over(l, "'c")
	counts(t, c, p)
	for i, s := range []string{"'b", "(", "'a", "x"} {
		if o := p.get(s); !o.is(outcome{codes[i], errs[i], o.place}) {
			t.Error(s, codes[i], errs[i])
		}
		gets(t, c, p, s)
	}
	counts(t, c, p)
}

// inUse is how much memory is.
func inUse() int64 {
	var s runtime.MemStats
	runtime.GC()
	runtime.GC()
	runtime.ReadMemStats(&s)
	return int64(s.HeapAlloc)
}

// keepsLess sees that some calls leave no more than so many bytes in use.
func keepsLess(t *testing.T, most int64, calls func()) {
	t.Helper()
	was := inUse()
	calls()
	if more := inUse() - was; more > most {
		t.Errorf("%d bytes more", more)
	}
}

// TestNothingHeavyIsKept: of a source its text and what it comes to, and no more; of what was asked again, and of Made and of futures, nothing.
func TestNothingHeavyIsKept(t *testing.T) {
	c := once.New()
	long := strings.Repeat("1 ", 2000)
	c.Get(long)
	c.Get("1")
	keepsLess(t, 1<<20, func() {
		for range 200 {
			c.Get(long)
			c.All(4, long, "1", long)
		}
	})
	keepsLess(t, 1<<20, func() {
		for range 50 {
			// Cut out of a text that is much longer.
			text := strings.Repeat("x", 1<<20)
			c.Get(text[:9+c.Made()])
			c.All(2, text[1:100+c.Made()])
		}
	})
	keepsLess(t, 4<<20, func() {
		for i := range 40 {
			c.Get(strconv.Itoa(i) + " '(" + strings.Repeat("1 ", 5000) + ")")
			c.Get(strconv.Itoa(i) + " '(" + strings.Repeat("1 ", 5000) + ") (if)")
		}
	})
	keepsLess(t, 1<<20, func() {
		asks := make([]int, 1000)
		for range 200 {
			once.Made(4, 10000, square, asks...)
			once.NewFuture().Set(5)
		}
	})
	runtime.KeepAlive(c)
	runtime.KeepAlive(long)
}

// TestNoGoroutineIsLeft: all that the package has begun have ended when a call answers, but for those that wait for a future.
func TestNoGoroutineIsLeft(t *testing.T) {
	// Behind the last line of its work a goroutine may be seen a moment longer.
	none := func() bool { return len(begun()) == 0 }
	if !soon(none) {
		t.Fatal("goroutines are left of other tests:", begun())
	}
	was := runtime.NumGoroutine()
	r := rand.New(rand.NewSource(256))
	for i := range 100 {
		c := once.New()
		c.All(1+i%16, drawnSources(r, 30)...)
		c.All(0, "1")
		c.All(16)
		c.Get("'a")
		f := once.NewFuture()
		f.Set(1)
		f.Get()
		asks := []int{1, 0, 7, 1, 2, 0}
		once.Made(1+i%16, 3, square, asks...)
		once.Made(0, 3, square, asks...)
		for _, fall := range falling() {
			once.Made(1+i%16, 3, fall, asks...)
		}
	}
	if !soon(none) || !soon(func() bool { return runtime.NumGoroutine() <= was }) {
		t.Error("goroutines are left:", begun(), runtime.NumGoroutine(), was)
	}
}

// TestAllHaveEnded: no function that is handed in runs any more when Made answers.
func TestAllHaveEnded(t *testing.T) {
	for i := range 300 {
		var running, ran [40]bool
		asks := make([]int, 80)
		for k := range asks {
			asks[k] = k % 40
		}
		once.Made(1+i%16, 40, func(n int) int64 {
			running[n] = true
			defer func() { running[n], ran[n] = false, true }()
			for range n % 5 {
				runtime.Gosched()
			}
			if n%3 == 0 {
				panic(n)
			}
			return 1
		}, asks...)
		if slices.Contains(running[:], true) || slices.Contains(ran[:], false) {
			t.Fatal("some run still, or have not run")
		}
	}
}
