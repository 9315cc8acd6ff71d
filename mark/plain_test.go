package mark_test

import (
	"fmt"
	"math/rand"
	"slices"
	"testing"

	"dapple/api"
	"dapple/cells"
	"dapple/mark"
)

// The chapter once more, in the plainest way: a list of cells, and a row; with it what others do to the heap, by chapter 3.

// plain is all that there is at one moment. It is never changed: what comes of a call is another one.
type plain struct {
	cells []api.Cell
	row   []int
}

func (p plain) copied() plain { return plain{slices.Clone(p.cells), slices.Clone(p.row)} }

type what int

const (
	shading what = iota
	laying
	scanning
	turning // others do these to the heap
	dropping
	making
	writing
	whats
)

// call is one of the marker's three calls that change something, or of others'.
type call struct {
	what  what
	words []api.Word // of shading; of writing, which lays the first one into the field B; of making A and B
	l     []int      // of laying; of others: the cell
	cell  api.Cell   // of making the kind and the colour; of turning the colour
}

func (c call) String() string {
	return fmt.Sprintf("%s(%x %v %x)", [...]string{"Shade", "Lay", "Scan", "turn", "drop", "make", "write"}[c.what], c.words, c.l, c.cell)
}

// made is what a call answers, as a text.
func made(h *cells.Heap, m *mark.Marker, c call) string {
	switch c.what {
	case shading:
		return fmt.Sprint(m.Shade(c.words...))
	case laying:
		return fmt.Sprint(m.Lay(c.l...))
	case scanning:
		cell, l, is := m.Scan()
		return fmt.Sprint(cell, l, is)
	case turning:
		_, from, _ := h.Head(c.l[0])
		h.Turn(c.l[0], from, c.cell.Colour)
	case dropping:
		h.Drop(c.l[0])
	case making:
		h.Make(c.l[0], c.cell.Kind, c.cell.Colour, c.words[0], c.words[1])
	case writing:
		h.Swap(c.l[0], 1, c.words[0])
	}
	return ""
}

// shade is what becomes of one cell that is shaded.
func (p *plain) shade(cell int, met []int) []int {
	if cell < 0 || len(p.cells) <= cell || p.cells[cell].Kind == api.KindFree || p.cells[cell].Colour != api.White {
		return met
	}
	p.cells[cell].Colour = api.Grey
	p.row = append(p.row, cell)
	return append(met, cell)
}

// shadeWord is the same of what a word names, by its bits.
func (p *plain) shadeWord(w api.Word, met []int) []int {
	if w%16 != 8 || w/16 > 2147483647 {
		return met
	}
	return p.shade(int(w/16), met)
}

// plainMade is what the chapter says that a call answers, and what is there then.
func plainMade(p plain, c call) (plain, string) {
	p = p.copied()
	switch c.what {
	case shading:
		met := []int{}
		for _, w := range c.words {
			met = p.shadeWord(w, met)
		}
		return p, fmt.Sprint(met)
	case laying:
		met := []int{}
		for _, cell := range c.l {
			met = p.shade(cell, met)
		}
		return p, fmt.Sprint(met)
	case scanning:
		return plainScan(p)
	}
	return plainOther(p, c), ""
}

func plainScan(p plain) (plain, string) {
	met := []int{}
	if len(p.row) == 0 {
		return p, fmt.Sprint(0, met, false)
	}
	first := p.row[0]
	p.row = p.row[1:]
	if p.cells[first].Kind != api.KindFree {
		met = p.shadeWord(p.cells[first].A, met)
		met = p.shadeWord(p.cells[first].B, met)
	}
	if p.cells[first].Colour == api.Grey {
		p.cells[first].Colour = api.Black
	}
	return p, fmt.Sprint(first, met, true)
}

func plainOther(p plain, c call) plain {
	cell := c.l[0]
	isFree := p.cells[cell].Kind == api.KindFree
	switch {
	case c.what == making && isFree:
		p.cells[cell] = api.Cell{Kind: c.cell.Kind, Colour: c.cell.Colour, A: c.words[0], B: c.words[1]}
	case c.what == turning && !isFree:
		p.cells[cell].Colour = c.cell.Colour
	case c.what == dropping:
		p.cells[cell] = api.Cell{}
	case c.what == writing && !isFree:
		p.cells[cell].B = c.words[0]
	}
	return p
}

// stands: what a marker and its heap tell of themselves is what p has.
func stands(t *testing.T, h *cells.Heap, m *mark.Marker, p plain, calls []call) {
	t.Helper()
	if l := h.Snapshot(); !slices.Equal(l, p.cells) {
		t.Fatalf("%v: the cells are %x, not %x", calls, l, p.cells)
	}
	if l := m.Grey(); !slices.Equal(l, p.row) {
		t.Fatalf("%v: Grey: %v, not %v", calls, l, p.row)
	}
}

// plainRow makes a row of calls of a new marker of a heap with these cells, and holds each answer, and what is there then, against the chapter.
func plainRow(t *testing.T, l []api.Cell, calls []call) {
	t.Helper()
	h := heapWith(l)
	m := mark.New(h)
	p := plain{cells: h.Snapshot()}
	for i, c := range calls {
		next, want := plainMade(p, c)
		if got := made(h, m, c); got != want {
			t.Fatalf("%x, %v: %s, not %s", l, calls[:i+1], got, want)
		}
		p = next
		stands(t, h, m, p, calls[:i+1])
	}
}

// laidOut is a heap and a marker at which p is: each cell of the row is white when its turn comes, then all get the colours that they are to have, or are dropped.
func laidOut(p plain) (*cells.Heap, *mark.Marker) {
	pair := api.Cell{Kind: api.KindPair, A: wordOf("n"), B: wordOf("n")}
	h := heapWith(slices.Repeat([]api.Cell{pair}, len(p.cells)))
	m := mark.New(h)
	for _, cell := range p.row {
		h.Turn(cell, api.Grey, api.White)
		m.Lay(cell)
	}
	for cell, c := range p.cells {
		h.Drop(cell)
		if c.Kind != api.KindFree {
			h.Make(cell, c.Kind, c.Colour, c.A, c.B)
		}
	}
	return h, m
}

// fewCells are all that a cell can be with words of these.
func fewCells(l []api.Word) []api.Cell {
	out := []api.Cell{{}}
	for _, a := range l {
		for _, b := range l {
			for colour := range api.Black + 1 {
				out = append(out, api.Cell{Kind: api.KindPair, Colour: colour, A: a, B: b})
			}
		}
	}
	return out
}

// fewCalls are calls of the cells 0 and 3, the free cell 1, the box 2, and no cell.
func fewCalls() []call {
	out := []call{{what: scanning}, {what: laying, l: []int{1, 4, -1, 2}}, {what: shading, words: wordsOf("r1 3 r4 n r2")}}
	for _, l := range [][]int{{0}, {3}, {0, 3}, {3, 0}, {0, 0}} {
		c, d := call{what: laying, l: l}, call{what: shading}
		for _, cell := range l {
			d.words = append(d.words, ref(cell))
		}
		out = append(out, c, d)
	}
	return out
}

// TestAllThereCanBe: two cells of all colours, or free, which name nothing, themselves, each other, a free one; each row of up to two; each call is made there.
func TestAllThereCanBe(t *testing.T) {
	rows := [][]int{nil, {0}, {3}, {0, 0}, {0, 3}, {3, 0}, {3, 3}}
	box := api.Cell{Kind: api.KindBox, A: wordOf("5"), B: wordOf("n")}
	few := fewCells(wordsOf("n r0 r3 r1"))
	all := 0
	for _, one := range few {
		for _, other := range few {
			for _, row := range rows {
				p := plain{[]api.Cell{one, {}, box, other}, row}
				for _, c := range fewCalls() {
					h, m := laidOut(p)
					next, want := plainMade(p, c)
					if got := made(h, m, c); got != want {
						t.Fatalf("%x, %v: %s, not %s", p, c, got, want)
					}
					stands(t, h, m, next, []call{c})
					all++
				}
			}
		}
	}
	if all != 49*49*7*13 {
		t.Errorf("%d are come to", all)
	}
}

// drawnWord is a word that names a cell of so many, or nothing, or nobody.
func drawnWord(r *rand.Rand, many int) api.Word {
	switch r.Intn(12) {
	case 0, 1:
		return wordOf("n")
	case 2:
		return bits(api.TagInt, int64(r.Intn(many)))
	case 3:
		return ref(many + r.Intn(3))
	case 4:
		return api.Word(r.Uint64())
	}
	return ref(r.Intn(many))
}

// drawnCells are some, of which few are free, and most are white.
func drawnCells(r *rand.Rand, many int) []api.Cell {
	out := make([]api.Cell, many)
	for i := range out {
		if r.Intn(6) == 0 {
			continue
		}
		out[i] = api.Cell{Kind: api.Kind(1 + r.Intn(3)), A: drawnWord(r, many), B: drawnWord(r, many)}
		if r.Intn(4) == 0 {
			out[i].Colour = api.Colour(r.Intn(3))
		}
	}
	return out
}

// drawnCall is one of a heap of so many cells; others' are seldom.
func drawnCall(r *rand.Rand, many int) call {
	switch r.Intn(8) {
	case 0, 1:
		c := call{what: shading}
		for range r.Intn(4) {
			c.words = append(c.words, drawnWord(r, many))
		}
		return c
	case 2:
		c := call{what: laying}
		for range r.Intn(4) {
			c.l = append(c.l, r.Intn(many+2)-1)
		}
		if l := edges(many); r.Intn(5) == 0 {
			c.l = append(c.l, l[r.Intn(len(l))])
		}
		return c
	case 3:
		return call{turning + what(r.Intn(int(whats-turning))), []api.Word{drawnWord(r, many), drawnWord(r, many)}, []int{r.Intn(many)},
			api.Cell{Kind: api.Kind(1 + r.Intn(3)), Colour: api.Colour(r.Intn(3))}}
	}
	return call{what: scanning}
}

// drawnRow is a row of them.
func drawnRow(r *rand.Rand, cells, many int) []call {
	var out []call
	for range many {
		out = append(out, drawnCall(r, cells))
	}
	return out
}

func TestDrawnRows(t *testing.T) {
	r := rand.New(rand.NewSource(151))
	for i := range 3000 {
		many := 4 + r.Intn(8)
		if i%20 == 0 {
			many = 4 + r.Intn(80)
		}
		plainRow(t, drawnCells(r, many), drawnRow(r, many, 60))
	}
}

func FuzzPlain(f *testing.F) {
	f.Add(int64(1), []byte{0, 1, 2, 0x43, 0x80, 0x81, 0xc7, 0x80})
	f.Add(int64(7), []byte{0x05, 0x80, 0x80, 0xd2, 0x80, 0xe2, 0x44, 0x80, 0x80})
	f.Fuzz(func(t *testing.T, seed int64, bytes []byte) {
		r := rand.New(rand.NewSource(seed))
		many := 4 + r.Intn(5)
		var calls []call
		for _, b := range bytes {
			n := int(b & 7)
			switch b >> 6 {
			case 0:
				calls = append(calls, call{what: shading, words: []api.Word{ref(n), ref(int(b >> 3 & 7))}})
			case 1:
				calls = append(calls, call{what: laying, l: []int{n, int(b>>3&7) - 1}})
			case 2:
				calls = append(calls, call{what: scanning})
			case 3:
				calls = append(calls, call{turning + what(b>>3&3), []api.Word{drawnWord(r, many), drawnWord(r, many)}, []int{n % many},
					api.Cell{Kind: api.KindPair, Colour: api.Colour(r.Intn(3))}})
			}
		}
		plainRow(t, drawnCells(r, many), calls)
	})
}
