package graph_test

import (
	"testing"

	"dapple/api"
	"dapple/graph"
)

// goodWords are words of every tag, at the ends of their numbers, with references to the cells of a heap of four.
func goodWords() []api.Word {
	return append(wordsOf("n f t none 0 1 -1 s0 s2147483647 p1 p22 r0 r1 r2 r3"), bits(api.TagInt, 1<<59-1), bits(api.TagInt, -1<<59))
}

// badWords are no words, or references to cells that a heap of four has not.
func badWords() []api.Word {
	out := []api.Word{
		0, ^api.Word(0), 1 << 63, 16,
		bits(api.TagNil, 1), bits(api.TagFalse, -1), bits(api.TagTrue, 1), bits(api.TagNone, 1),
		bits(api.TagSymbol, -1), bits(api.TagSymbol, 1<<31), bits(api.TagPrim, 0), bits(api.TagPrim, 23), bits(api.TagPrim, -1),
		ref(4), ref(5), ref(-1), ref(-4), ref(1<<31 - 1), ref(1 << 31), ref(1 << 32), ref(1<<32 + 1), bits(api.TagRef, 1<<59), bits(api.TagRef, -1<<59),
	}
	for tag := api.Tag(9); tag < 16; tag++ {
		out = append(out, bits(tag, 0), bits(tag, 1))
	}
	return out
}

// fourCells is a heap that may be: a pair, a free cell with anything in it, a box, a closure.
func fourCells() []api.Cell {
	return heapOf("r1 r3, free x0 r9, box r2 n, clo 0 r0")
}

// usedCells are those of fourCells that are not free.
func usedCells() []int { return []int{0, 2, 3} }

// fields are a cell's two words.
func fields(c *api.Cell) []*api.Word { return []*api.Word{&c.A, &c.B} }

func TestHeapsThatMayBe(t *testing.T) {
	for _, s := range []string{"", "free x0 x0", "n n", "r0 r0", "r1 r0, r0 r1", "box r0 r0, clo r1 r2, r0 r1", "grey n n, black n n, grey free r7 x0, black box 1 n, grey clo 0 n"} {
		checks(t, heapOf(s), api.OK, 0)
	}
	checks(t, fourCells(), api.OK, 0)
	checks(t, []api.Cell{}, api.OK, 0)
}

// TestKindsAndColours: each kind and colour that may be, and all others, of cells that are free and of others.
func TestKindsAndColours(t *testing.T) {
	for kind := range 256 {
		for colour := range 256 {
			c := api.Cell{Kind: api.Kind(kind), Colour: api.Colour(colour), A: wordOf("n"), B: wordOf("r2")}
			h := []api.Cell{{}, {}, c}
			if kind <= 3 && colour <= 2 {
				checks(t, h, api.OK, 0)
				continue
			}
			checks(t, h, api.ErrGraphForm, 2)
			if kind <= 4 || colour <= 3 {
				refused(t, h)
			}
		}
	}
}

// TestWordsOfCells: each field of each kind takes all words that fit, and nothing else; a free cell takes all.
func TestWordsOfCells(t *testing.T) {
	for _, at := range usedCells() {
		for field := range 2 {
			for _, w := range goodWords() {
				h := fourCells()
				*fields(&h[at])[field] = w
				checks(t, h, api.OK, 0)
			}
			for _, w := range badWords() {
				h := fourCells()
				*fields(&h[at])[field] = w
				checks(t, h, api.ErrGraphForm, at)
				refused(t, h, ref(0))
				refused(t, h)
			}
		}
	}
	for _, w := range append(badWords(), goodWords()...) {
		h := fourCells()
		h[1].A, h[1].B = w, w
		checks(t, h, api.OK, 0)
		orders(t, h, wordsOf("r1"), []int{1})
		hasForm(t, h, wordsOf("r1"), []api.Cell{{}}, wordsOf("r0"))
	}
}

// TestRefsToTheLastCell: a reference may name the last cell, none behind it, however many there are.
func TestRefsToTheLastCell(t *testing.T) {
	for n := 1; n <= 40; n++ {
		for at := range n {
			h := make([]api.Cell, n)
			h[at] = api.Cell{Kind: api.KindBox, A: ref(n - 1), B: wordOf("n")}
			checks(t, h, api.OK, 0)
			h[at].A, h[at].B = h[at].B, ref(n)
			checks(t, h, api.ErrGraphForm, at)
			refused(t, h)
		}
		h := make([]api.Cell, n)
		orders(t, h, []api.Word{ref(n - 1)}, []int{n - 1})
		refused(t, h, ref(n))
	}
}

// TestTheLeastWrongCell: of two that are wrong, in whatever way, the least one is told.
func TestTheLeastWrongCell(t *testing.T) {
	spoil := []func(*api.Cell){
		func(c *api.Cell) { c.Kind = 4 },
		func(c *api.Cell) { c.Colour = 3 },
		func(c *api.Cell) { c.A = 0 },
		func(c *api.Cell) { c.B = 0 },
		func(c *api.Cell) { c.A = ref(4) },
		func(c *api.Cell) { c.B = ref(-1) },
	}
	for _, first := range usedCells() {
		for _, second := range usedCells() {
			for _, one := range spoil {
				for _, two := range spoil {
					h := fourCells()
					one(&h[first])
					two(&h[second])
					checks(t, h, api.ErrGraphForm, min(first, second))
					refused(t, h, ref(0))
				}
			}
		}
	}
}

// TestWrongRoots: one that is no word, or names no cell, wherever it stands, and whatever is reached.
func TestWrongRoots(t *testing.T) {
	for _, w := range badWords() {
		refused(t, fourCells(), w)
		refused(t, fourCells(), ref(0), w)
		refused(t, fourCells(), w, ref(0))
		refused(t, fourCells(), ref(0), ref(0), w, wordOf("n"))
	}
	for _, w := range goodWords() {
		if l, e := graph.Reach(fourCells(), w); e != api.OK || len(l) != 4 {
			t.Errorf("the root %x: %v, %d", w, l, e)
		}
	}
}

// TestWrongCellsNobodyReaches: a heap is refused for them too.
func TestWrongCellsNobodyReaches(t *testing.T) {
	refused(t, heapOf("n n, x0 n"), ref(0))
	refused(t, heapOf("n n, n r2"), ref(0))
	refused(t, heapOf("n n, x0 n"))
	refused(t, heapOf("n n, x0 n"), wordOf("n"))
}

// TestWrongTo: of Path also `to` that is no cell.
func TestWrongTo(t *testing.T) {
	for _, to := range []int{-1, -2, -4, 4, 5, 4096, 1 << 31, 1<<32 + 1, -1 << 63, 1<<63 - 1} {
		refusedPath(t, fourCells(), to, ref(0))
		refusedPath(t, fourCells(), to)
		refusedPath(t, nil, to)
	}
	refusedPath(t, nil, 0)
	refusedPath(t, []api.Cell{}, 0, wordOf("n"))
}

// TestEmptyHeaps: nothing is reached, and roots that are no references stay.
func TestEmptyHeaps(t *testing.T) {
	for _, h := range [][]api.Cell{nil, {}} {
		for _, s := range []string{"", "n", "5 s3 p1 f t none"} {
			roots := wordsOf(s)
			checks(t, h, api.OK, 0)
			reaches(t, h, roots, nil)
			orders(t, h, roots, nil)
			hasForm(t, h, roots, nil, roots)
		}
		refused(t, h, ref(0))
		refused(t, h, 0)
	}
}
