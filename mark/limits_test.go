package mark_test

import (
	"runtime"
	"slices"
	"strings"
	"testing"

	"dapple/api"
	"dapple/mark"
)

// chain is cells of which each names the next one, by A or by B, and the last one nothing.
func chain(many int, byB bool) []api.Cell {
	out := make([]api.Cell, many)
	for i := range out {
		out[i] = api.Cell{Kind: api.KindPair, A: wordOf("n"), B: wordOf("1")}
		if i+1 < many {
			out[i].A = ref(i + 1)
		}
		if byB {
			out[i].A, out[i].B = out[i].B, out[i].A
		}
	}
	return out
}

// upTo are the numbers from 0 on.
func upTo(many int) []int {
	out := make([]int, many)
	for i := range out {
		out[i] = i
	}
	return out
}

// TestLongestChain: as long as a heap can be, cell by cell.
func TestLongestChain(t *testing.T) {
	for _, byB := range []bool{false, true} {
		x := newListener(t, chain(api.MaxCells, byB))
		x.shade(ref(0))
		for cell := range api.MaxCells {
			x.grey(cell)
			if !x.scan() {
				t.Fatalf("the row is empty at %d", cell)
			}
		}
		if x.scan() || !slices.Equal(x.met, upTo(api.MaxCells)) || !slices.Equal(x.scanned, x.met) {
			t.Fatal("they are not scanned in order")
		}
		x.colours(strings.Repeat("b", api.MaxCells))
	}
}

// TestWidestRow: all cells are grey at one time, by one call.
func TestWidestRow(t *testing.T) {
	down := upTo(api.MaxCells)
	slices.Reverse(down)
	x := newListener(t, chain(api.MaxCells, false))
	x.lay(down...)
	x.grey(down...)
	x.colours(strings.Repeat("g", api.MaxCells))
	x.scanAll()
	if !slices.Equal(x.met, down) || !slices.Equal(x.scanned, down) {
		t.Error("they are not scanned in order")
	}
	x.colours(strings.Repeat("b", api.MaxCells))
}

// TestMuchInOneCall: the same cells very often, among what names none, and another one behind all of them.
func TestMuchInOneCall(t *testing.T) {
	const often = 200000
	d := newDesk(t, "n n, n n, n n, n n, n n, n n")
	numbers := append(slices.Repeat([]int{-1, 2, 6, 2, 0}, often), 5)
	if l := d.m.Lay(numbers...); !slices.Equal(l, []int{2, 0, 5}) {
		t.Errorf("Lay: %d cells", len(l))
	}
	some := append(slices.Repeat(wordsOf("n r3 5 r9 r0 r3"), often), ref(1))
	if l := d.m.Shade(some...); !slices.Equal(l, []int{3, 1}) {
		t.Errorf("Shade: %d cells", len(l))
	}
	d.grey(2, 0, 5, 3, 1)
}

// TestRowLongerThanTheHeap: others may whiten a cell again and again, so that it stands in the row more often than there are cells.
func TestRowLongerThanTheHeap(t *testing.T) {
	const often = 10000
	d := newDesk(t, "r1 n, n n, n n, n n")
	for range often {
		d.m.Lay(0)
		d.turns(0, api.White)
	}
	d.grey(make([]int, often)...)
	if cell, l, is := d.m.Scan(); cell != 0 || !slices.Equal(l, []int{1}) || !is {
		t.Fatalf("Scan: %d, %v, %v", cell, l, is)
	}
	for range often - 1 {
		if cell, l, is := d.m.Scan(); cell != 0 || len(l) != 0 || !is {
			t.Fatalf("Scan: %d, %v, %v", cell, l, is)
		}
	}
	d.scans(1)
	d.scansNone()
	d.colours("wbww")
}

// inUse is how many bytes there are behind a collection of Go's own.
func inUse() int64 {
	var s runtime.MemStats
	runtime.GC()
	runtime.ReadMemStats(&s)
	return int64(s.HeapAlloc)
}

// TestNothingGrowsOverLongTimes: what has gone from the row is not kept, though the row is never empty.
func TestNothingGrowsOverLongTimes(t *testing.T) {
	const turns = 1000000
	h := heapWith(cellsOf("n n, n n, n n, n n"))
	m := mark.New(h)
	m.Lay(0)
	was := inUse()
	for i := range turns {
		m.Lay((i + 1) % 4)
		if cell, _, is := m.Scan(); cell != i%4 || !is {
			t.Fatalf("turn %d: %d, %v", i, cell, is)
		}
		h.Turn(i%4, api.Black, api.White)
	}
	if l := m.Grey(); !slices.Equal(l, []int{turns % 4}) {
		t.Errorf("Grey: %v", l)
	}
	if more := inUse() - was; more > turns {
		t.Errorf("%d bytes more", more)
	}
	runtime.KeepAlive(m)
}
