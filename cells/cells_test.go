package cells_test

import (
	"math"
	"math/rand"
	"slices"
	"testing"

	"dapple/api"
	"dapple/cells"
)

// heapOf is a heap of so many free cells.
func heapOf(t *testing.T, n int) *cells.Heap {
	t.Helper()
	h, e := cells.New(n)
	if h == nil || e != api.OK {
		t.Fatal("a heap of", n, e)
	}
	return h
}

// filled is a heap of four cells: a free one, and a pair, a box and a closure of the three colours.
func filled(t *testing.T) (*cells.Heap, small) {
	t.Helper()
	h, p := heapOf(t, 4), small{}
	for i, x := range []api.Cell{{}, {Kind: api.KindPair, Colour: api.White, A: integer(5), B: none}, {Kind: api.KindBox, Colour: api.Grey, A: 17, B: 0}, {Kind: api.KindClosure, Colour: api.Black, A: integer(greatest), B: integer(least)}} {
		if p[i] = x; x.Kind == api.KindFree {
			continue
		}
		if e := h.Make(i, x.Kind, x.Colour, x.A, x.B); e != api.OK {
			t.Fatal("cell", i, e)
		}
	}
	return h, p
}

// stands tells whether a heap's cells are these.
func stands(h *cells.Heap, p small) bool { return slices.Equal(h.Snapshot(), p[:]) }

func TestHeapsThatMayNotBe(t *testing.T) {
	for _, n := range []int{3, 4097, 0, 1, -1, -4, math.MinInt, math.MaxInt, 1 << 32, 1<<32 + 4} {
		if h, e := cells.New(n); h != nil || e != api.ErrCellsForm {
			t.Error("a heap of", n, e)
		}
	}
}

func TestNewHeaps(t *testing.T) {
	for _, n := range []int{4, 5, 64, 4095, 4096} {
		h := heapOf(t, n)
		if h.Len() != n {
			t.Error("length", h.Len(), "not", n)
		}
		if !slices.Equal(h.Snapshot(), make([]api.Cell, n)) {
			t.Error(n, "cells are not all free")
		}
		for i := range n {
			if k, c, e := h.Head(i); k != api.KindFree || c != api.White || e != api.OK {
				t.Fatal(n, "cell", i, k, c, e)
			}
		}
	}
}

// TestEachCell: each is its own, up to the last one.
func TestEachCell(t *testing.T) {
	for _, n := range []int{4, 4096} {
		h, want := heapOf(t, n), make([]api.Cell, n)
		for i := range n {
			want[i] = api.Cell{Kind: api.Kind(1 + i%3), Colour: api.Colour(i % 2 * 2), A: integer(int64(i)), B: integer(int64(-i))}
			if e := h.Make(i, want[i].Kind, want[i].Colour, want[i].A, want[i].B); e != api.OK {
				t.Fatal("cell", i, e)
			}
		}
		if !slices.Equal(h.Snapshot(), want) {
			t.Fatal("made otherwise")
		}
		for i := range n {
			if w, e := h.Swap(i, i%2, integer(7)); e != api.OK || w != []api.Word{want[i].A, want[i].B}[i%2] {
				t.Fatal("cell", i, w, e)
			}
			if w, e := h.Load(i, 1-i%2); e != api.OK || w != []api.Word{want[i].B, want[i].A}[i%2] {
				t.Fatal("cell", i, w, e)
			}
		}
		for _, i := range []int{-1, n, n + 1} {
			if e := h.Drop(i); e != api.ErrArg {
				t.Error("cell", i, e)
			}
		}
		if e := h.Drop(n - 1); e != api.OK {
			t.Error("the last cell", e)
		}
	}
}

// TestExampleOfOneCell is examples 1 to 3 of the chapter.
func TestExampleOfOneCell(t *testing.T) {
	h := heapOf(t, 4)
	for i, x := range []struct {
		call call
		want answer
	}{
		{call{what: head}, answer{}},
		{call{what: load}, answer{e: api.ErrCellsNone}},
		{call{what: load, cell: 4}, answer{e: api.ErrArg}},
		{call{what: load, field: 2}, answer{e: api.ErrArg}},
		{call{what: load, cell: -1}, answer{e: api.ErrArg}},
		{call{what: fill, cell: 1, kind: api.KindPair, w: integer(5), v: none}, answer{}},
		{call{what: fill, cell: 1, kind: api.KindPair, w: integer(5), v: none}, answer{e: api.ErrCellsNone}},
		{call{what: fill, cell: 1, kind: api.KindFree}, answer{e: api.ErrCellsForm}},
		{call{what: load, cell: 1}, answer{w: integer(5)}},
		{call{what: swap, cell: 1, w: integer(6)}, answer{w: integer(5)}},
		{call{what: cas, cell: 1, v: integer(5), w: integer(7)}, answer{w: integer(6)}},
		{call{what: cas, cell: 1, v: integer(6), w: integer(7)}, answer{w: integer(6), yes: true}},
		{call{what: add, cell: 1, w: integer(3)}, answer{w: integer(10)}},
		{call{what: add, cell: 1, field: 1, w: integer(3)}, answer{e: api.ErrWordKind}},
		{call{what: load, cell: 1, field: 1}, answer{w: none}},
		{call{what: shade, cell: 1}, answer{yes: true}},
		{call{what: shade, cell: 1}, answer{}},
		{call{what: turn, cell: 1, d: api.Black, c: api.White}, answer{}},
		{call{what: turn, cell: 1, d: api.Grey, c: api.Black}, answer{yes: true}},
		{call{what: head, cell: 1}, answer{kind: api.KindPair, c: api.Black}},
		{call{what: shade}, answer{}},
		{call{what: drop, cell: 1}, answer{}},
		{call{what: drop, cell: 1}, answer{e: api.ErrCellsNone}},
	} {
		if got := ask(h, x.call); got != x.want {
			t.Error("call", i, x.call, "answered", got, "not", x.want)
		}
	}
	if !stands(h, small{}) {
		t.Error("not four free cells", h.Snapshot())
	}
}

// TestAllOrders: each call with each cell, field, kind and colour, right and wrong, is answered as the document says: with
// the error that is named first, and with nothing changed.
func TestAllOrders(t *testing.T) {
	h, plain := filled(t)
	for w := load; w < whats; w++ {
		for _, cell := range []int{-1, 0, 1, 2, 3, 4, math.MinInt, math.MaxInt} {
			for _, field := range []int{-1, 0, 1, 2, math.MinInt, math.MaxInt} {
				for _, kind := range []api.Kind{0, 1, 3, 4, 255} {
					for _, c := range []api.Colour{0, 1, 2, 3, 255} {
						for _, d := range []api.Colour{0, 1, 2, 3, 255} {
							x := call{what: w, cell: cell, field: field, kind: kind, c: c, d: d, w: integer(1), v: integer(5)}
							next, want := plain.ask(x)
							if got := ask(h, x); got != want {
								t.Fatal(x, "answered", got, "not", want)
							}
							if next != plain {
								if !stands(h, next) {
									t.Fatal(x, "left", h.Snapshot(), "not", next)
								}
								h, plain = filled(t)
							}
						}
					}
				}
			}
		}
		if !stands(h, plain) {
			t.Fatal("something that was refused has changed the heap", w)
		}
	}
}

func TestFreeCellIsToldByNothing(t *testing.T) {
	h := heapOf(t, 4)
	for turn := range 2 {
		for i := range 4 {
			for _, field := range []int{0, 1} {
				if w, e := h.Load(i, field); w != 0 || e != api.ErrCellsNone {
					t.Error("Load", w, e)
				}
				if w, e := h.Swap(i, field, integer(1)); w != 0 || e != api.ErrCellsNone {
					t.Error("Swap", w, e)
				}
				for _, old := range []api.Word{0, integer(1)} {
					if w, did, e := h.Cas(i, field, old, integer(1)); w != 0 || did || e != api.ErrCellsNone {
						t.Error("Cas", w, did, e)
					}
				}
				for _, n := range []api.Word{0, none, integer(1)} {
					if w, e := h.Add(i, field, n); w != 0 || e != api.ErrCellsNone {
						t.Error("Add", w, e)
					}
				}
			}
			if h.Shade(i) || h.Turn(i, api.White, api.White) || h.Turn(i, api.White, api.Black) {
				t.Error("a free cell has turned")
			}
			if e := h.Drop(i); e != api.ErrCellsNone {
				t.Error("Drop", e)
			}
		}
		if !stands(h, small{}) {
			t.Fatal("free cells were changed", turn)
		}
		for i := range 4 {
			if e := h.Make(i, api.KindBox, api.Black, integer(9), integer(8)); e != api.OK {
				t.Error("Make", e)
			}
			h.Drop(i)
		}
	}
}

// TestWordsWhateverTheyAre: a heap does not ask what a word is.
func TestWordsWhateverTheyAre(t *testing.T) {
	for _, w := range someWords() {
		for field := range 2 {
			h := heapOf(t, 4)
			if e := h.Make(0, api.KindPair, api.White, w, w); e != api.OK {
				t.Error("Make of", w, e)
			}
			if got, e := h.Load(0, field); got != w || e != api.OK {
				t.Error("Load of", w, got, e)
			}
			if got, did, e := h.Cas(0, field, w+1, none); got != w || did || e != api.OK {
				t.Error("Cas of", w, got, did, e)
			}
			if got, did, e := h.Cas(0, field, w, w+1); got != w || !did || e != api.OK {
				t.Error("Cas of", w, got, did, e)
			}
			if got, e := h.Swap(0, field, w); got != w+1 || e != api.OK {
				t.Error("Swap of", w, got, e)
			}
			want := api.Cell{Kind: api.KindPair, A: w, B: w}
			if got := h.Snapshot()[0]; got != want {
				t.Error("there is", got, "not", want)
			}
		}
	}
}

func TestAddAtTheEdges(t *testing.T) {
	for _, x := range []struct {
		there, n, want api.Word
		e              api.Errno
	}{
		{integer(greatest), integer(0), integer(greatest), api.OK},
		{integer(greatest), integer(1), 0, api.ErrWordOver},
		{integer(greatest - 1), integer(1), integer(greatest), api.OK},
		{integer(least), integer(-1), 0, api.ErrWordOver},
		{integer(least + 1), integer(-1), integer(least), api.OK},
		{integer(least), integer(greatest), integer(-1), api.OK},
		{integer(least), integer(least), 0, api.ErrWordOver},
		{integer(5), none, 0, api.ErrWordKind},
		{integer(5), 0, 0, api.ErrWordKind},
		{none, integer(5), 0, api.ErrWordKind},
		{0, integer(5), 0, api.ErrWordKind},
		{8 + 16, 8 + 16, 0, api.ErrWordKind},
	} {
		for field := range 2 {
			h := heapOf(t, 4)
			h.Make(3, api.KindBox, api.Grey, x.there, x.there)
			if w, e := h.Add(3, field, x.n); w != x.want || e != x.e {
				t.Error(x.there, "and", x.n, "are", w, e)
			}
			want := x.want
			if x.e != api.OK {
				want = x.there
			}
			if w, _ := h.Load(3, field); w != want {
				t.Error(x.there, "and", x.n, "leave", w)
			}
			if w, _ := h.Load(3, 1-field); w != x.there {
				t.Error("the other field is", w)
			}
		}
	}
}

// TestColours: from each colour to each one, asked for with each one.
func TestColours(t *testing.T) {
	for is := api.White; is <= api.Black; is++ {
		for from := range api.Colour(5) {
			for to := range api.Colour(5) {
				h := heapOf(t, 4)
				h.Make(1, api.KindClosure, is, integer(1), integer(2))
				want, c := from == is && to <= api.Black, is
				if want {
					c = to
				}
				if h.Turn(1, from, to) != want {
					t.Error("from", from, "to", to, "of", is)
				}
				if got := h.Snapshot()[1]; got != (api.Cell{Kind: api.KindClosure, Colour: c, A: integer(1), B: integer(2)}) {
					t.Error("from", from, "to", to, "of", is, "leaves", got)
				}
			}
		}
		h := heapOf(t, 4)
		h.Make(1, api.KindClosure, is, integer(1), integer(2))
		if h.Shade(1) != (is == api.White) {
			t.Error("Shade of", is)
		}
	}
}

// TestHeapIsPlainCells: a single goroutine is answered as by plain cells, and leaves what they are; each call is seen in
// its own cell alone.
func TestHeapIsPlainCells(t *testing.T) {
	for seed := range int64(100) {
		r := rand.New(rand.NewSource(seed))
		h, plain := heapOf(t, 4), small{}
		for range 400 {
			c := someCall(r)
			next, want := plain.ask(c)
			if got := ask(h, c); got != want {
				t.Fatal(c, "on", plain, "answered", got, "not", want)
			}
			if plain = next; !stands(h, plain) {
				t.Fatal(c, "left", h.Snapshot(), "not", plain)
			}
		}
	}
}

func TestMakeAndDropLeaveWhatWas(t *testing.T) {
	h, p := filled(t)
	for range 100 {
		h.Make(0, api.KindPair, api.Grey, integer(3), integer(4))
		h.Drop(0)
		if !stands(h, p) {
			t.Fatal("left", h.Snapshot())
		}
	}
}

func TestHeapsKnowNothingOfOneAnother(t *testing.T) {
	h, p := filled(t)
	o := heapOf(t, 4)
	if !stands(o, small{}) {
		t.Error("a new heap has another one's cells")
	}
	o.Make(1, api.KindBox, api.White, integer(1), integer(1))
	o.Add(1, 0, integer(1))
	o.Shade(1)
	o.Storm(2, api.Touch{Kind: api.TouchAdd, Cell: 1, N: integer(9)})
	h.Drop(3)
	p[3] = api.Cell{}
	if !stands(h, p) || !stands(o, small{1: {Kind: api.KindBox, Colour: api.Grey, A: integer(11), B: integer(1)}}) {
		t.Error("a heap was changed through another one", h.Snapshot(), o.Snapshot())
	}
}

// TestSnapshotIsNewMemory: neither what stands there nor another snapshot is changed through one, nor a snapshot by calls.
func TestSnapshotIsNewMemory(t *testing.T) {
	h, p := filled(t)
	a, b := h.Snapshot(), h.Snapshot()
	a = a[:cap(a)]
	for i := range a {
		a[i] = api.Cell{Kind: 9, Colour: 9, A: 9, B: 9}
	}
	if !stands(h, p) || !slices.Equal(b, p[:]) {
		t.Error("changed through a snapshot")
	}
	for i := range 4 {
		h.Drop(i)
	}
	if !slices.Equal(b, p[:]) {
		t.Error("a snapshot has changed")
	}
}
