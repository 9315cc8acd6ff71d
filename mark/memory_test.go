package mark_test

import (
	"cmp"
	"math/rand"
	"runtime"
	"slices"
	"strings"
	"sync"
	"testing"
	"unsafe"

	"dapple/api"
	"dapple/cells"
	"dapple/mark"
)

// span is where a list's memory begins and ends, with the room behind it.
type span struct{ from, to uintptr }

// spanOf is a list's; nothing, if it has no memory.
func spanOf[T any](l []T) []span {
	if cap(l) == 0 {
		return nil
	}
	var one T
	from := uintptr(unsafe.Pointer(unsafe.SliceData(l)))
	return []span{{from, from + uintptr(cap(l))*unsafe.Sizeof(one)}}
}

// apart tells whether no two have memory in common.
func apart(spans ...[]span) bool {
	all := slices.Concat(spans...)
	slices.SortFunc(all, func(s, u span) int { return cmp.Compare(s.from, u.from) })
	for i := 1; i < len(all); i++ {
		if all[i].from < all[i-1].to {
			return false
		}
	}
	return true
}

// over lays another number over all of a list, and into the room behind it.
func over(l []int, one int) {
	for i := range l[:cap(l)] {
		l[:cap(l)][i] = one
	}
}

// eight are white cells without references.
const eight = "n n, n n, n n, n n, n n, n n, n n, n n"

// TestToldWrittenOver: what its owner does with what Shade, Lay, Scan and Grey told is seen neither in the row nor in what comes out later.
func TestToldWrittenOver(t *testing.T) {
	d := newDesk(t, "r6 r7, n n, n n, n n, n n, n n, n n, n n")
	l := d.m.Lay(0, 3, 1)
	over(l, 5)
	_ = append(l[:0], 9, 9, 9, 9)
	d.grey(0, 3, 1)
	over(d.m.Shade(ref(4), ref(2)), -7)
	d.grey(0, 3, 1, 4, 2)
	over(d.m.Grey(), 5)
	_ = append(d.m.Grey(), 5)
	d.grey(0, 3, 1, 4, 2)
	cell, met, is := d.m.Scan()
	if cell != 0 || !slices.Equal(met, []int{6, 7}) || !is {
		t.Fatalf("Scan: %d, %v, %v", cell, met, is)
	}
	over(met, 5)
	kept := d.m.Grey()
	for _, cell := range []int{3, 1, 4, 2, 6, 7} {
		over(d.m.Grey(), 5)
		d.scans(cell)
	}
	d.lays([]int{5}, 5)
	if !slices.Equal(kept, []int{3, 1, 4, 2, 6, 7}) {
		t.Errorf("what came out has become %v", kept)
	}
}

// TestToldStays: what came out is not changed by later calls.
func TestToldStays(t *testing.T) {
	d := newDesk(t, "r4 r5, r6 r7, n n, n n, n n, n n, n n, n n")
	laid, shaded := d.m.Lay(0, 1), d.m.Shade(ref(3), ref(2))
	row := d.m.Grey()
	_, met, _ := d.m.Scan()
	_, later, _ := d.m.Scan()
	for len(d.m.Grey()) > 0 {
		d.m.Scan()
	}
	d.turns(0, api.White)
	d.lays([]int{0}, 0)
	for name, l := range map[string][2][]int{
		"Lay": {laid, {0, 1}}, "Shade": {shaded, {3, 2}}, "Grey": {row, {0, 1, 3, 2}}, "Scan": {met, {4, 5}}, "the second Scan": {later, {6, 7}},
	} {
		if !slices.Equal(l[0], l[1]) {
			t.Errorf("%s: it has become %v, not %v", name, l[0], l[1])
		}
	}
}

// TestHandedInStays: neither what is handed in nor the room behind it is changed, and what becomes of it later is not seen.
func TestHandedInStays(t *testing.T) {
	d := newDesk(t, eight)
	numbers := []int{3, 9, 3, 0, 5, 6}
	some := wordsOf("r7 n r7 r1 r5 r6")
	if l := d.m.Lay(numbers[:4]...); !slices.Equal(l, []int{3, 0}) {
		t.Fatalf("Lay: %v", l)
	}
	if l := d.m.Shade(some[:4]...); !slices.Equal(l, []int{7, 1}) {
		t.Fatalf("Shade: %v", l)
	}
	if !slices.Equal(numbers, []int{3, 9, 3, 0, 5, 6}) || !slices.Equal(some, wordsOf("r7 n r7 r1 r5 r6")) {
		t.Errorf("%v, %x", numbers, some)
	}
	over(numbers, 4)
	for i := range some {
		some[i] = ref(4)
	}
	d.grey(3, 0, 7, 1)
	d.colours("ggwgwwwg")
	d.scans(3)
	d.scans(0)
	d.scans(7)
	d.scans(1)
	d.scansNone()
}

// TestNothingIsShared: no two lists that came out have memory in common, nor with what was handed in (R2).
func TestNothingIsShared(t *testing.T) {
	if l := []int{1, 2, 3}; apart(spanOf(l[:1]), spanOf(l[2:])) || !apart(spanOf(l[:1:1]), spanOf(l[1:])) {
		t.Fatal("what is shared is not seen")
	}
	r := rand.New(rand.NewSource(160))
	lists := 0
	for range 100 {
		many := 4 + r.Intn(20)
		h := heapWith(drawnCells(r, many))
		m := mark.New(h)
		var all []span
		var kept [][]int
		for _, c := range drawnRow(r, many, 60) {
			switch c.what {
			case shading:
				all = append(all, spanOf(c.words)...)
				kept = append(kept, m.Shade(c.words...))
			case laying:
				kept = append(kept, c.l, m.Lay(c.l...))
			case scanning:
				_, l, _ := m.Scan()
				kept = append(kept, l)
			default:
				made(h, m, c)
			}
			kept = append(kept, m.Grey(), m.Grey())
		}
		for _, l := range kept {
			all = append(all, spanOf(l)...)
		}
		if !apart(all) {
			t.Fatal("memory is shared")
		}
		lists += len(all)
		// A list that nobody has any more may have left its memory to a later one.
		runtime.KeepAlive(kept)
	}
	if lists < 5000 {
		t.Errorf("only %d lists", lists)
	}
}

// TestWrittenOverAtEachTurn: rows of calls are answered by the chapter, though all that comes out is written over at once.
func TestWrittenOverAtEachTurn(t *testing.T) {
	r := rand.New(rand.NewSource(161))
	for range 500 {
		many := 4 + r.Intn(8)
		h := heapWith(drawnCells(r, many))
		m := mark.New(h)
		p := plain{cells: h.Snapshot()}
		calls := drawnRow(r, many, 60)
		for i, c := range calls {
			p, _ = plainMade(p, c)
			switch c.what {
			case shading:
				over(m.Shade(c.words...), r.Intn(many))
			case laying:
				over(m.Lay(c.l...), r.Intn(many))
			case scanning:
				_, l, _ := m.Scan()
				over(l, r.Intn(many))
			default:
				made(h, m, c)
			}
			over(m.Grey(), r.Intn(many))
			stands(t, h, m, p, calls[:i+1])
		}
	}
}

// TestAskingToldNothing: Grey, and a Scan of an empty row, change nothing, however often they are called.
func TestAskingToldNothing(t *testing.T) {
	d := newDesk(t, eight)
	for range 100 {
		d.scansNone()
	}
	d.lays([]int{5, 2}, 5, 2)
	for range 100 {
		d.grey(5, 2)
	}
	d.colours("wwgwwgww")
	d.scans(5)
}

// TestTwoHeapsInTurns: markers of two heaps know nothing of one another (R4).
func TestTwoHeapsInTurns(t *testing.T) {
	d, o := newDesk(t, "r1 n, n n, n n, n n"), newDesk(t, "r3 r2, r0 n, n n, n n, n n")
	d.shades("r0", 0)
	o.scansNone()
	o.colours("wwwww")
	o.lays([]int{1, 4}, 1, 4)
	d.grey(0)
	d.colours("gwww")
	o.scans(1, 0)
	d.scans(0, 1)
	o.grey(4, 0)
	d.lays([]int{4})
	o.scans(4)
	o.scans(0, 3, 2)
	d.scans(1)
	d.scansNone()
	o.scans(3)
	o.grey(2)
	d.colours("bbww")
	o.colours("bbgbb")
}

// TestTwoOfOneHeap: who shades a cell first has it in its row, and it alone; the other one is told nothing.
func TestTwoOfOneHeap(t *testing.T) {
	d := newDesk(t, "r1 r2, r3 n, r3 n, r0 n")
	o := desk{t, d.h, mark.New(d.h)}
	d.lays([]int{0}, 0)
	o.lays([]int{0, 1}, 1)
	d.grey(0)
	o.grey(1)
	d.scans(0, 2)
	o.scans(1, 3)
	o.shades("r2")
	d.scans(2)
	d.scansNone()
	o.grey(3)
	o.scans(3)
	o.scansNone()
	d.colours("bbbb")
	late := desk{t, d.h, mark.New(d.h)}
	late.lays([]int{0, 1, 2, 3})
	late.scansNone()
}

// TestManyOfOneHeapInDrawnTurns: several markers by turns: each cell becomes grey by one of them, which scans it; black is what all words reach.
func TestManyOfOneHeapInDrawnTurns(t *testing.T) {
	shared := 0
	eachDrawn(t, 162, func(r *rand.Rand, l []api.Cell) {
		h := heapWith(l)
		all := make([]*listener, 3)
		for i := range all {
			all[i] = &listener{desk: desk{t, h, mark.New(h)}}
		}
		var roots []api.Word
		for range 20 {
			x := all[r.Intn(3)]
			if r.Intn(4) == 0 {
				w := rootsOf(r, len(l))
				x.shade(w...)
				roots = append(roots, w...)
			} else {
				x.scan()
			}
		}
		var met []int
		for _, x := range all {
			x.scanAll()
			if !slices.Equal(x.scanned, x.met) {
				t.Fatalf("%x: met %v, scanned %v", l, x.met, x.scanned)
			}
			if len(x.met) > 0 {
				shared++
			}
			met = append(met, x.met...)
		}
		all[0].colours(reached(t, l, roots))
		if row := slices.Sorted(slices.Values(met)); len(slices.Compact(row)) != len(met) {
			t.Fatalf("%x: met %v", l, met)
		}
	})
	if shared < 5000 {
		t.Errorf("only %d markers met something", shared)
	}
}

// TestManyInDrawnTurns: eight markers of eight heaps, one of which is called at each turn.
func TestManyInDrawnTurns(t *testing.T) {
	r := rand.New(rand.NewSource(163))
	for range 50 {
		var heaps []*cells.Heap
		var all []*mark.Marker
		var plains []plain
		for i := range 8 {
			heaps = append(heaps, heapWith(drawnCells(r, 4+i%3)))
			all = append(all, mark.New(heaps[i]))
			plains = append(plains, plain{cells: heaps[i].Snapshot()})
		}
		for range 500 {
			i := r.Intn(8)
			c := drawnCall(r, len(plains[i].cells))
			next, want := plainMade(plains[i], c)
			if got := made(heaps[i], all[i], c); got != want {
				t.Fatalf("%v: %s, not %s", c, got, want)
			}
			plains[i] = next
			j := r.Intn(8)
			stands(t, heaps[j], all[j], plains[j], nil)
		}
	}
}

// TestEachOfOneGoroutine: many goroutines at one time, each with its own marker of its own heap, are answered as if each were alone.
func TestEachOfOneGoroutine(t *testing.T) {
	var all sync.WaitGroup
	for seed := range 8 {
		all.Go(func() {
			r := rand.New(rand.NewSource(int64(seed % 2)))
			h := heapWith(drawnCells(r, 9))
			m := mark.New(h)
			p := plain{cells: h.Snapshot()}
			for _, c := range drawnRow(r, 9, 2000) {
				next, want := plainMade(p, c)
				if got := made(h, m, c); got != want || !slices.Equal(m.Grey(), next.row) {
					t.Errorf("%v: %s, not %s", c, got, want)
					return
				}
				p = next
			}
		})
	}
	all.Wait()
}

// TestGoroutinesOfOneHeap: many goroutines at one time, each with its own marker of one heap: it is the heap's own call that tells who was first, so each cell becomes grey once in all, and black is what all words reach.
func TestGoroutinesOfOneHeap(t *testing.T) {
	const many, goroutines = 2000, 8
	r := rand.New(rand.NewSource(164))
	for range 20 {
		l := make([]api.Cell, many)
		for i := range l {
			if r.Intn(8) > 0 {
				l[i] = api.Cell{Kind: api.KindPair, A: rootOf(r, many, 8), B: rootOf(r, many, 8)}
			}
		}
		roots := slices.Repeat([]api.Word{ref(0), ref(many - 1), ref(many / 2)}, 4)
		h := heapWith(l)
		heard := make([]*listener, goroutines)
		var all sync.WaitGroup
		for i := range heard {
			heard[i] = &listener{desk: desk{t, h, mark.New(h)}}
			all.Go(func() {
				heard[i].shade(roots[i:]...)
				heard[i].scanAll()
			})
		}
		all.Wait()
		var met []int
		for _, x := range heard {
			if !slices.Equal(x.scanned, x.met) {
				t.Fatal("what one has met it has not scanned")
			}
			met = append(met, x.met...)
		}
		want := reached(t, l, roots)
		heard[0].colours(want)
		row := slices.Sorted(slices.Values(met))
		if len(slices.Compact(row)) != len(met) || len(met) != strings.Count(want, "b") {
			t.Fatalf("%d became grey", len(met))
		}
	}
}
