package mark_test

import (
	"math"
	"slices"
	"strconv"
	"strings"
	"testing"

	"dapple/api"
	"dapple/cells"
	"dapple/mark"
)

// bits is the word of a tag and a number by chapter 1, or what no word is.
func bits(t api.Tag, n int64) api.Word { return api.Word(n)<<4 | api.Word(t) }

// ref is the reference to a cell, or what looks like one.
func ref(n int) api.Word { return bits(api.TagRef, int64(n)) }

// wordOf reads a word: n is nil; r3, s3, p3 are a reference, a symbol, a primitive, a number alone is one; x with hexadecimal digits is any bits.
func wordOf(s string) api.Word {
	if s == "n" {
		return bits(api.TagNil, 0)
	}
	if digits, ok := strings.CutPrefix(s, "x"); ok {
		n, err := strconv.ParseUint(digits, 16, 64)
		if err != nil {
			panic(err)
		}
		return api.Word(n)
	}
	tag, digits := api.TagInt, s
	switch s[0] {
	case 'r':
		tag, digits = api.TagRef, s[1:]
	case 's':
		tag, digits = api.TagSymbol, s[1:]
	case 'p':
		tag, digits = api.TagPrim, s[1:]
	}
	n, err := strconv.ParseInt(digits, 10, 64)
	if err != nil {
		panic(err)
	}
	return bits(tag, n)
}

// wordsOf reads words with blanks between.
func wordsOf(s string) []api.Word {
	var out []api.Word
	for _, f := range strings.Fields(s) {
		out = append(out, wordOf(f))
	}
	return out
}

// cellsOf reads cells with commas between: "r2 n" is a pair, "box 5 n", "clo 0 r1" say their kinds; "grey" or "black" may stand ahead; "free" alone is a free one.
func cellsOf(s string) []api.Cell {
	var out []api.Cell
	for _, part := range strings.Split(s, ",") {
		out = append(out, cellOf(strings.Fields(part)))
	}
	return out
}

func cellOf(fields []string) api.Cell {
	c := api.Cell{Kind: api.KindPair}
	for len(fields) != 2 {
		switch fields[0] {
		case "free":
			return api.Cell{}
		case "box":
			c.Kind = api.KindBox
		case "clo":
			c.Kind = api.KindClosure
		case "grey":
			c.Colour = api.Grey
		case "black":
			c.Colour = api.Black
		default:
			panic(fields[0])
		}
		fields = fields[1:]
	}
	c.A, c.B = wordOf(fields[0]), wordOf(fields[1])
	return c
}

// heapWith is a heap with these cells, and with free ones behind them, if they are fewer than a heap has at least.
func heapWith(l []api.Cell) *cells.Heap {
	h, e := cells.New(max(len(l), api.MinCells))
	if e != api.OK {
		panic(e)
	}
	for i, c := range l {
		if c.Kind == api.KindFree {
			continue
		}
		if e := h.Make(i, c.Kind, c.Colour, c.A, c.B); e != api.OK {
			panic(e)
		}
	}
	return h
}

// coloursOf has a letter for each cell: a dot for a free one, w, g, b by the colour.
func coloursOf(l []api.Cell) string {
	var s strings.Builder
	for _, c := range l {
		switch {
		case c.Kind == api.KindFree:
			s.WriteByte('.')
		default:
			s.WriteByte("wgb"[c.Colour])
		}
	}
	return s.String()
}

// bare are cells without their colours.
func bare(l []api.Cell) []api.Cell {
	out := slices.Clone(l)
	for i := range out {
		out[i].Colour = api.White
	}
	return out
}

// desk is a marker and its heap, whose answers are held against what they ought to be.
type desk struct {
	*testing.T
	h *cells.Heap
	m *mark.Marker
}

// newDesk is one of a heap with these cells.
func newDesk(t *testing.T, s string) desk {
	t.Helper()
	h := heapWith(cellsOf(s))
	m := mark.New(h)
	if m == nil {
		t.Fatal("New gives none")
	}
	return desk{t, h, m}
}

// stays: the cells' kinds and words are these, as far as they are no colours.
func (d desk) stays(was []api.Cell) {
	d.Helper()
	if l := d.h.Snapshot(); !slices.Equal(bare(l), bare(was)) {
		d.Fatalf("the cells are %x, not %x", l, was)
	}
}

// shades: these words are, by which these cells become grey, and stand behind the row.
func (d desk) shades(s string, want ...int) {
	d.Helper()
	was, row := d.h.Snapshot(), d.m.Grey()
	if l := d.m.Shade(wordsOf(s)...); !slices.Equal(l, want) {
		d.Fatalf("Shade(%s): %v, not %v", s, l, want)
	}
	d.stays(was)
	d.grey(slices.Concat(row, want)...)
}

// lays: these cells are, by which those that are wanted become grey, and stand behind the row.
func (d desk) lays(l []int, want ...int) {
	d.Helper()
	was, row := d.h.Snapshot(), d.m.Grey()
	if met := d.m.Lay(l...); !slices.Equal(met, want) {
		d.Fatalf("Lay(%v): %v, not %v", l, met, want)
	}
	d.stays(was)
	d.grey(slices.Concat(row, want)...)
}

// scans: the first cell of the row is this one, by which those become grey.
func (d desk) scans(cell int, want ...int) {
	d.Helper()
	was, row := d.h.Snapshot(), d.m.Grey()
	if c, l, is := d.m.Scan(); c != cell || !slices.Equal(l, want) || !is {
		d.Fatalf("Scan: %d, %v, %v, not %d, %v", c, l, is, cell, want)
	}
	d.stays(was)
	d.grey(slices.Concat(row[1:], want)...)
}

// scansNone: the row is empty.
func (d desk) scansNone() {
	d.Helper()
	was := d.h.Snapshot()
	for range 3 {
		if c, l, is := d.m.Scan(); c != 0 || len(l) != 0 || is {
			d.Fatalf("Scan: %d, %v, %v, though nothing is grey", c, l, is)
		}
		d.grey()
	}
	if l := d.h.Snapshot(); !slices.Equal(l, was) {
		d.Fatalf("the cells are %x, not %x", l, was)
	}
}

// grey: this is the row.
func (d desk) grey(want ...int) {
	d.Helper()
	if l := d.m.Grey(); !slices.Equal(l, want) {
		d.Fatalf("Grey: %v, not %v", l, want)
	}
}

// colours: the cells have these.
func (d desk) colours(want string) {
	d.Helper()
	if s := coloursOf(d.h.Snapshot()); s != want {
		d.Fatalf("the colours are %s, not %s", s, want)
	}
}

// turns: somebody else gives the cell another colour.
func (d desk) turns(cell int, to api.Colour) {
	d.Helper()
	_, from, _ := d.h.Head(cell)
	if !d.h.Turn(cell, from, to) {
		d.Fatalf("the cell %d is not turned", cell)
	}
}

// drops: somebody else makes the cell free.
func (d desk) drops(cell int) {
	d.Helper()
	if e := d.h.Drop(cell); e != api.OK {
		d.Fatalf("Drop(%d): %d", cell, e)
	}
}

// makes: somebody else fills the cell.
func (d desk) makes(cell int, s string) {
	d.Helper()
	c := cellOf(strings.Fields(s))
	if e := d.h.Make(cell, c.Kind, c.Colour, c.A, c.B); e != api.OK {
		d.Fatalf("Make(%d, %s): %d", cell, s, e)
	}
}

// writes: somebody else lays a word there.
func (d desk) writes(cell, field int, s string) {
	d.Helper()
	if _, e := d.h.Swap(cell, field, wordOf(s)); e != api.OK {
		d.Fatalf("Swap(%d, %d, %s): %d", cell, field, s, e)
	}
}

// edges are numbers of which none is a cell's of a heap of so many.
func edges(cells int) []int {
	return []int{
		math.MinInt, math.MinInt + 1, -1<<32 - 1, -1 << 32, -1<<32 + 1, math.MinInt32, -4097, -cells, -2, -1,
		cells, cells + 1, 4096, 4097, 65536, math.MaxInt32, 1 << 32, 1<<32 + 1, 1 << 60, math.MaxInt - 1, math.MaxInt,
	}
}

// chapters is the heap of the chapter's examples.
const chapters = "r1 r2, box 5 n, r0 r2, box r1 n, free"

// TestExamples is examples 1 and 2 of the chapter.
func TestExamples(t *testing.T) {
	d := newDesk(t, chapters)
	d.colours("wwww.")
	d.shades("r0 7 r0 r4 r9", 0)
	d.grey(0)
	d.scans(0, 1, 2)
	d.scans(1)
	d.scans(2)
	d.scansNone()
	d.colours("bbbw.")
	d.lays([]int{3, 3, 4, -1}, 3)
	d.scans(3)
	d.scansNone()
	d.colours("bbbb.")
}

func TestExampleOfNothing(t *testing.T) {
	d := newDesk(t, chapters)
	d.shades("")
	d.scansNone()
	d.colours("wwww.")
}

// TestNewWhateverColours: the row is empty, and no cell is changed by that.
func TestNewWhateverColours(t *testing.T) {
	for _, s := range []string{
		"free", "r0 r0", "grey r0 n", "black r0 n", "free, free, free, grey r0 r3", chapters,
		"grey r1 n, black r2 n, r3 n, grey r0 r1, black r0 r2, free, grey box r0 n, grey clo 0 r0",
	} {
		h := heapWith(cellsOf(s))
		was := h.Snapshot()
		d := desk{t, h, mark.New(h)}
		d.grey()
		d.scansNone()
		if l := h.Snapshot(); !slices.Equal(l, was) {
			t.Errorf("New: %x, not %x", l, was)
		}
	}
}

// TestGreyAheadOfNew: what was grey ahead of the marker never comes into its row, whatever is asked; what it names stays white.
func TestGreyAheadOfNew(t *testing.T) {
	d := newDesk(t, "r1 n, grey r2 n, r3 n, n n")
	d.lays([]int{1})
	d.shades("r1")
	d.lays([]int{0}, 0)
	d.scans(0)
	d.scansNone()
	d.colours("bgww")
}

// TestBlackAheadOfNew: nor is a black one looked into.
func TestBlackAheadOfNew(t *testing.T) {
	d := newDesk(t, "r1 n, black r2 n, r3 n, n n")
	d.lays([]int{1, 0}, 0)
	d.scans(0)
	d.scansNone()
	d.colours("bbww")
}

// TestHeapWithoutCells: one of noughts has none; nothing can be shaded there.
func TestHeapWithoutCells(t *testing.T) {
	d := desk{t, &cells.Heap{}, nil}
	d.m = mark.New(d.h)
	d.shades("r0 r1 n 5 x0")
	d.lays([]int{0, 1})
	d.lays(edges(0))
	d.scansNone()
}

// TestHeapsOfAllSizes: of the least, some, and the greatest heap the first and the last cell are shaded, and none behind it.
func TestHeapsOfAllSizes(t *testing.T) {
	for _, n := range []int{api.MinCells, 5, 63, 64, 65, 4095, api.MaxCells} {
		l := slices.Repeat([]api.Cell{{Kind: api.KindPair, A: wordOf("n"), B: wordOf("n")}}, n)
		d := desk{T: t, h: heapWith(l)}
		d.m = mark.New(d.h)
		d.lays([]int{n, n - 1, 0, -1}, n-1, 0)
		if l := d.m.Shade(ref(n), ref(n-2), ref(n-1), ref(1)); !slices.Equal(l, []int{n - 2, 1}) {
			t.Fatalf("of %d: %v", n, l)
		}
		d.scans(n - 1)
		d.scans(0)
		d.scans(n - 2)
		d.scans(1)
		d.scansNone()
		d.colours("bb" + strings.Repeat("w", n-4) + "bb")
	}
}

// TestHeapFilledLater: the heap is the marker's own, not a copy: what others do behind New is seen.
func TestHeapFilledLater(t *testing.T) {
	d := newDesk(t, "free")
	d.lays([]int{0, 1, 2, 3})
	d.makes(2, "r3 n")
	d.makes(3, "box 5 n")
	d.lays([]int{0, 1, 2, 3}, 2, 3)
	d.drops(3)
	d.makes(3, "r2 n")
	d.scans(2, 3)
	d.grey(3, 3)
	d.colours("..bg")
}
