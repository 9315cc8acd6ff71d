package sweep_test

import (
	"fmt"
	"math/rand"
	"slices"
	"testing"

	"dapple/api"
	"dapple/cells"
	"dapple/sweep"
)

// The chapter once more, in the plainest way: a list of cells, and two numbers; with it what others do to the heap, by chapter 3.

// plain is all that there is at one moment. It is never changed: what comes of a call is another one.
type plain struct {
	cells        []api.Cell
	swept, freed int
}

type what int

const (
	beginning what = iota
	stepping
	turning // others do these to the heap
	dropping
	making
	writing
	whats
)

// call is one of the sweeper's two calls that change something, or of others'.
type call struct {
	what what
	cell int      // of others'
	to   api.Cell // of making all of it; of turning the colour; of writing A, which is laid into the field B
}

func (c call) String() string {
	return fmt.Sprintf("%s(%d %x)", [...]string{"Begin", "Step", "turn", "drop", "make", "write"}[c.what], c.cell, c.to)
}

// made is what a call answers, as a text.
func made(h *cells.Heap, s *sweep.Sweeper, c call) string {
	switch c.what {
	case beginning:
		s.Begin()
	case stepping:
		return fmt.Sprint(s.Step())
	case turning:
		_, from, _ := h.Head(c.cell)
		h.Turn(c.cell, from, c.to.Colour)
	case dropping:
		h.Drop(c.cell)
	case making:
		h.Make(c.cell, c.to.Kind, c.to.Colour, c.to.A, c.to.B)
	case writing:
		h.Swap(c.cell, 1, c.to.A)
	}
	return ""
}

// plainMade is what the chapter says that a call answers, and what is there then.
func plainMade(p plain, c call) (plain, string) {
	p.cells = slices.Clone(p.cells)
	switch c.what {
	case beginning:
		p.swept, p.freed = 0, 0
		return p, ""
	case stepping:
		return plainStep(p)
	}
	isFree := p.cells[c.cell].Kind == api.KindFree
	switch {
	case c.what == making && isFree:
		p.cells[c.cell] = c.to
	case c.what == turning && !isFree:
		p.cells[c.cell].Colour = c.to.Colour
	case c.what == dropping:
		p.cells[c.cell] = api.Cell{}
	case c.what == writing && !isFree:
		p.cells[c.cell].B = c.to.A
	}
	return p, ""
}

func plainStep(p plain) (plain, string) {
	next := p.swept
	if next == len(p.cells) || p.cells[next].Kind != api.KindFree && p.cells[next].Colour == api.Grey {
		return p, fmt.Sprint(0, false, api.Errno(160))
	}
	isFreed := p.cells[next].Kind != api.KindFree && p.cells[next].Colour == api.White
	p.cells[next].Colour = api.White
	p.swept++
	if isFreed {
		p.cells[next] = api.Cell{}
		p.freed++
	}
	return p, fmt.Sprint(next, isFreed, api.OK)
}

// stands: what a sweeper and its heap tell of themselves is what p has.
func stands(t *testing.T, h *cells.Heap, s *sweep.Sweeper, p plain, calls []call) {
	t.Helper()
	if l := h.Snapshot(); !slices.Equal(l, p.cells) {
		t.Fatalf("%v: the cells are %x, not %x", calls, l, p.cells)
	}
	if s.At() != p.swept || s.Freed() != p.freed || s.Done() != (p.swept == len(p.cells)) {
		t.Fatalf("%v: At %d, Freed %d, Done %v, not %d, %d", calls, s.At(), s.Freed(), s.Done(), p.swept, p.freed)
	}
}

// plainRow makes a row of calls of a new sweeper of a heap with these cells, and holds each answer, and what is there then, against the chapter.
func plainRow(t *testing.T, l []api.Cell, calls []call) {
	t.Helper()
	h := heapWith(l)
	s := sweep.New(h)
	p := plain{h.Snapshot(), len(l), 0}
	stands(t, h, s, p, nil)
	for i, c := range calls {
		next, want := plainMade(p, c)
		if got := made(h, s, c); got != want {
			t.Fatalf("%x, %v: %s, not %s", l, calls[:i+1], got, want)
		}
		p = next
		stands(t, h, s, p, calls[:i+1])
	}
}

// laidOut is a heap and a sweeper at which p is: as many white cells as were freed are swept, then free ones, then all cells are what they are to be.
func laidOut(p plain) (*cells.Heap, *sweep.Sweeper) {
	h := heapWith(make([]api.Cell, len(p.cells)))
	for cell := range p.freed {
		h.Make(cell, api.KindPair, api.White, 0, 0)
	}
	s := sweep.New(h)
	s.Begin()
	for range p.swept {
		s.Step()
	}
	for cell, c := range p.cells {
		if c.Kind != api.KindFree {
			h.Make(cell, c.Kind, c.Colour, c.A, c.B)
		}
	}
	return h, s
}

// eachPlain hands on all that four cells can come to: each free or of a colour, whatever was swept and freed.
func eachPlain(do func(p plain)) {
	for n := range 256 {
		letters := []byte{".wgb"[n%4], ".wgb"[n/4%4], ".wgb"[n/16%4], ".wgb"[n/64]}
		for swept := range 5 {
			for freed := range swept + 1 {
				do(plain{cellsOf(string(letters)), swept, freed})
			}
		}
	}
}

// TestAllThereCanBe: each row of up to three calls of the sweeper is made wherever four cells can come to, behind what others do to one of them.
func TestAllThereCanBe(t *testing.T) {
	rows := [][]call{{}}
	for range 3 {
		for _, row := range slices.Clone(rows) {
			rows = append(rows, append(slices.Clone(row), call{what: beginning}), append(slices.Clone(row), call{what: stepping}))
		}
	}
	others := []call{{what: writing, cell: 1, to: api.Cell{A: integer(9)}}}
	for cell := range 4 {
		others = append(others, call{what: dropping, cell: cell})
		for colour := range api.Black + 1 {
			to := api.Cell{Kind: api.KindBox, Colour: colour, A: integer(7), B: ref(2)}
			others = append(others, call{turning, cell, to}, call{making, cell, to})
		}
	}
	all := 0
	eachPlain(func(p plain) {
		// What others do is told by the cells alone: one of them by turns is enough.
		first := others[all%len(others)]
		all++
		for _, row := range rows {
			h, s := laidOut(p)
			is := p
			stands(t, h, s, is, nil)
			for _, c := range append([]call{first}, row...) {
				next, want := plainMade(is, c)
				if got := made(h, s, c); got != want {
					t.Fatalf("%v, %v, %v: %s, not %s", p, first, row, got, want)
				}
				is = next
				stands(t, h, s, is, row)
			}
		}
	})
	if all != 256*15 {
		t.Errorf("%d are come to", all)
	}
}

// drawnCells are some, free or of any kind, of the colours that the letters tell, with any words.
func drawnCells(r *rand.Rand, many int, letters string) []api.Cell {
	out := make([]api.Cell, many)
	for i := range out {
		out[i] = cellOf(i, letters[r.Intn(len(letters))])
		if out[i].Kind == api.KindFree {
			continue
		}
		out[i].Kind = api.Kind(1 + r.Intn(3))
		out[i].A, out[i].B = drawnWord(r, many), drawnWord(r, many)
	}
	return out
}

// drawnWord is a reference to a cell of so many, a number, or what no word is.
func drawnWord(r *rand.Rand, many int) api.Word {
	switch r.Intn(4) {
	case 0:
		return integer(r.Intn(100))
	case 1:
		return api.Word(r.Uint64())
	}
	return ref(r.Intn(many))
}

// drawnCall is one of a heap of so many cells.
func drawnCall(r *rand.Rand, many int) call {
	c := call{what: stepping, cell: r.Intn(many)}
	switch r.Intn(4 * many) {
	case 0:
		c.what = beginning
	case 1, 2, 3, 4, 5, 6:
		c.what = turning + what(r.Intn(int(whats-turning)))
	}
	c.to = api.Cell{Kind: api.Kind(1 + r.Intn(3)), Colour: api.Colour(r.Intn(3)), A: drawnWord(r, many), B: drawnWord(r, many)}
	return c
}

// drawnRow is a row of them, which begins a sweep soon.
func drawnRow(r *rand.Rand, many, calls int) []call {
	var out []call
	for i := range calls {
		if i == 2 {
			out = append(out, call{what: beginning})
		}
		out = append(out, drawnCall(r, many))
	}
	return out
}

func TestDrawnRows(t *testing.T) {
	r := rand.New(rand.NewSource(161))
	for i := range 3000 {
		many := 4 + r.Intn(8)
		if i%20 == 0 {
			many = 4 + r.Intn(80)
		}
		plainRow(t, drawnCells(r, many, "..wwwbbbg"), drawnRow(r, many, 5*many))
	}
}

func FuzzPlain(f *testing.F) {
	f.Add(int64(1), []byte{0, 1, 1, 0x12, 1, 1, 1, 1})
	f.Add(int64(7), []byte{0, 1, 0x23, 1, 0x34, 0, 1, 1, 0x15, 1, 1})
	f.Fuzz(func(t *testing.T, seed int64, bytes []byte) {
		r := rand.New(rand.NewSource(seed))
		many := 4 + r.Intn(5)
		var calls []call
		for _, b := range bytes {
			c := drawnCall(r, many)
			c.what, c.cell = what(b&15)%whats, int(b>>4)%many
			calls = append(calls, c)
		}
		plainRow(t, drawnCells(r, many, ".wgb"), calls)
	})
}
