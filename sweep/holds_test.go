package sweep_test

import (
	"math/rand"
	"slices"
	"strings"
	"testing"

	"dapple/api"
	"dapple/barrier"
	"dapple/cells"
	"dapple/graph"
	"dapple/mark"
	"dapple/sweep"
)

// eachDrawn hands on many heaps of such cells, small ones, greater ones, and some of the greatest.
func eachDrawn(seed int64, letters string, do func(r *rand.Rand, l []api.Cell)) {
	r := rand.New(rand.NewSource(seed))
	for i := range 3000 {
		many := 4 + r.Intn(8)
		switch {
		case i%500 == 0:
			many = api.MaxCells
		case i%10 == 0:
			many = 4 + r.Intn(100)
		}
		do(r, drawnCells(r, many, letters))
	}
}

// sweepAll is Begin, and Step till all is swept: which cells were swept, and which of these were freed.
func sweepAll(t *testing.T, s *sweep.Sweeper) (swept, freed []int) {
	t.Helper()
	s.Begin()
	for !s.Done() {
		cell, back, e := s.Step()
		if e != api.OK || len(swept) == api.MaxCells {
			t.Fatalf("Step: %d behind %d others", e, len(swept))
		}
		swept = append(swept, cell)
		if back {
			freed = append(freed, cell)
		}
	}
	if len(swept) != s.At() || len(freed) != s.Freed() {
		t.Fatalf("At %d, Freed %d, though %d and %d were", s.At(), s.Freed(), len(swept), len(freed))
	}
	return swept, freed
}

// upTo are the numbers from 0 on.
func upTo(many int) []int {
	out := make([]int, many)
	for i := range out {
		out[i] = i
	}
	return out
}

// ofLetter are the cells of this letter, rising.
func ofLetter(l []api.Cell, letter byte) []int {
	var out []int
	for cell, is := range []byte(lettersOf(l)) {
		if is == letter {
			out = append(out, cell)
		}
	}
	return out
}

// without are cells of which these are free, and all others white.
func without(l []api.Cell, freed []int) []api.Cell {
	out := slices.Clone(l)
	for i := range out {
		out[i].Colour = api.White
	}
	for _, cell := range freed {
		out[cell] = api.Cell{}
	}
	return out
}

// TestJustTheWhiteOnes: of a heap that nobody else changes a sweep frees just the white cells, in their order, and leaves all others white; a second one behind it frees these, too.
func TestJustTheWhiteOnes(t *testing.T) {
	whites, blacks := 0, 0
	eachDrawn(162, ".wb", func(r *rand.Rand, l []api.Cell) {
		white, black := ofLetter(l, 'w'), ofLetter(l, 'b')
		d := desk{T: t, h: heapWith(l)}
		d.s = sweep.New(d.h)
		swept, freed := sweepAll(t, d.s)
		if !slices.Equal(swept, upTo(len(l))) || !slices.Equal(freed, white) {
			t.Fatalf("%s: swept %v, freed %v", lettersOf(l), swept, freed)
		}
		d.has(without(l, white))
		d.refused()
		swept, freed = sweepAll(t, d.s)
		if !slices.Equal(swept, upTo(len(l))) || !slices.Equal(freed, black) {
			t.Fatalf("%s: the second: swept %v, freed %v", lettersOf(l), swept, freed)
		}
		d.has(make([]api.Cell, len(l)))
		if _, freed = sweepAll(t, d.s); len(freed) != 0 {
			t.Fatalf("the third: freed %v", freed)
		}
		d.has(make([]api.Cell, len(l)))
		whites += len(white)
		blacks += len(black)
	})
	if whites < 10000 || blacks < 10000 {
		t.Errorf("%d are white, %d black", whites, blacks)
	}
}

// TestOneCellAStep: each step changes no cell but the one that it tells.
func TestOneCellAStep(t *testing.T) {
	eachDrawn(163, ".wb", func(r *rand.Rand, l []api.Cell) {
		if len(l) > 200 {
			return
		}
		h := heapWith(l)
		s := sweep.New(h)
		s.Begin()
		for at := range l {
			was := h.Snapshot()
			cell, _, e := s.Step()
			if cell != at || s.At() != at+1 || e != api.OK {
				t.Fatalf("Step: %d, %d, At %d, not %d", cell, e, s.At(), at)
			}
			is := h.Snapshot()
			was[at] = is[at]
			if !slices.Equal(is, was) {
				t.Fatalf("Step of %d: the cells are %x, not %x", at, is, was)
			}
		}
	})
}

// busy is a sweep beside which others make cells.
type busy struct {
	h     *cells.Heap
	s     *sweep.Sweeper
	made  map[int]api.Cell // since this sweep began, as far as they were not dropped again
	ahead int              // how many of them were made ahead of the sweeper, or at its next cell
	lost  []int            // those that the sweep freed
}

// act is somebody's turn: a free cell is made, of the colour that is told of it and of how many were swept; or one that was made is dropped, or written into.
func (b *busy) act(r *rand.Rand, colour func(cell, swept int) api.Colour) {
	cell := r.Intn(b.h.Len())
	c, isMade := b.made[cell]
	switch kind, _, _ := b.h.Head(cell); {
	case kind == api.KindFree:
		c = api.Cell{Kind: api.Kind(1 + r.Intn(3)), A: drawnWord(r, b.h.Len()), B: drawnWord(r, b.h.Len())}
		b.h.Make(cell, c.Kind, colour(cell, b.s.At()), c.A, c.B)
		b.made[cell] = c
		if cell >= b.s.At() {
			b.ahead++
		}
	case isMade && r.Intn(3) == 0:
		b.h.Drop(cell)
		delete(b.made, cell)
	case isMade:
		c.A = drawnWord(r, b.h.Len())
		b.h.Swap(cell, 0, c.A)
		b.made[cell] = c
	}
}

// run is the sweep from its beginning to its end, with others' turns ahead of, between and behind its steps.
func (b *busy) run(t *testing.T, r *rand.Rand, colour func(cell, swept int) api.Colour) {
	t.Helper()
	b.s.Begin()
	for at := range b.h.Len() {
		for range r.Intn(4) {
			b.act(r, colour)
		}
		cell, freed, e := b.s.Step()
		if cell != at || e != api.OK || b.s.At() != at+1 {
			t.Fatalf("Step: %d, %d, At %d, not %d", cell, e, b.s.At(), at)
		}
		if _, isMade := b.made[cell]; isMade && freed {
			b.lost = append(b.lost, cell)
			delete(b.made, cell)
		}
	}
	for range r.Intn(4) {
		b.act(r, colour)
	}
}

// birth is the colour that chapter 13 tells.
func birth(cell, swept int) api.Colour { return barrier.Birth(api.PhaseSweep, cell, swept) }

// TestNewOnesAreNotFreed: a cell that was made behind the sweeper, or ahead of it by the colour that chapter 13 tells, is not freed by it; behind it all of them are white, and stand as they were made.
func TestNewOnesAreNotFreed(t *testing.T) {
	ahead, behind, old := 0, 0, 0
	eachDrawn(164, "..wb", func(r *rand.Rand, l []api.Cell) {
		b := busy{h: heapWith(l), made: map[int]api.Cell{}}
		b.s = sweep.New(b.h)
		b.run(t, r, birth)
		if len(b.lost) > 0 {
			t.Fatalf("%s: %v were made, and freed", lettersOf(l), b.lost)
		}
		for cell, c := range b.h.Snapshot() {
			is, isMade := b.made[cell]
			if !isMade && l[cell].Colour == api.Black {
				is = l[cell]
				is.Colour = api.White
				old++
			}
			if c != is {
				t.Fatalf("%s: the cell %d is %x, not %x", lettersOf(l), cell, c, is)
			}
		}
		// Others drop none but new ones: so it is the sweep that freed the white ones of old, all of them.
		if b.s.Freed() != len(ofLetter(l, 'w')) {
			t.Fatalf("%s: %d were freed", lettersOf(l), b.s.Freed())
		}
		ahead += b.ahead
		behind += len(b.made)
	})
	if ahead < 3000 || behind < 3000 || old < 3000 {
		t.Errorf("made ahead %d, there in the end %d, black of old %d", ahead, behind, old)
	}
}

// TestOtherColoursWouldBeFreed: the test above tells something: of cells that are made white ahead of the sweeper many are lost.
func TestOtherColoursWouldBeFreed(t *testing.T) {
	lost := 0
	eachDrawn(165, "..wb", func(r *rand.Rand, l []api.Cell) {
		b := busy{h: heapWith(l), made: map[int]api.Cell{}}
		b.s = sweep.New(b.h)
		b.run(t, r, func(int, int) api.Colour { return api.White })
		lost += len(b.lost)
	})
	if lost < 1000 {
		t.Errorf("%d were lost", lost)
	}
}

// TestRefusedTillNoMoreGrey: where it is refused, it stays where it is, whatever else becomes of the heap, till the cell is no more grey; then it goes on there.
func TestRefusedTillNoMoreGrey(t *testing.T) {
	refused := 0
	eachDrawn(166, ".wwbbg", func(r *rand.Rand, l []api.Cell) {
		if len(l) > 200 {
			return
		}
		d := deskWith(t, l)
		d.begins()
		for at := range l {
			d.tells(at, d.s.Freed())
			letter := lettersOf(d.h.Snapshot())[at]
			if letter == 'g' {
				for range r.Intn(3) {
					d.refused()
					if other := r.Intn(len(l)); other != at {
						c := drawnCall(r, len(l))
						c.what, c.cell = turning+what(r.Intn(4)), other
						made(d.h, d.s, c)
					}
				}
				d.refused()
				letter = ".wb"[r.Intn(3)]
				if letter == '.' {
					d.drop(at)
				} else {
					d.turn(at, letter)
				}
				refused++
			}
			d.step(at, letter == 'w')
		}
		d.refused()
	})
	if refused < 3000 {
		t.Errorf("%d times it was refused", refused)
	}
}

// TestWhatIsWhiteIsNobodys: behind a marking to its end a sweep frees just what graph.Reach does not tell of the roots; what is left names nothing that is free, and all of it is white, cycle by cycle, with new cells between.
func TestWhatIsWhiteIsNobodys(t *testing.T) {
	dead, live := 0, 0
	r := rand.New(rand.NewSource(167))
	for range 300 {
		many := 4 + r.Intn(40)
		h := heapWith(make([]api.Cell, many))
		m, s := mark.New(h), sweep.New(h)
		root := integer(0)
		for range 20 {
			root = grown(r, h, root)
			l := h.Snapshot()
			m.Shade(root)
			for more := true; more; {
				_, _, more = m.Scan()
			}
			is, e := graph.Reach(l, root)
			if e != api.OK {
				t.Fatalf("Reach: %d", e)
			}
			var want []int
			for cell := range l {
				if l[cell].Kind != api.KindFree && !is[cell] {
					want = append(want, cell)
				}
			}
			if _, freed := sweepAll(t, s); !slices.Equal(freed, want) {
				t.Fatalf("%x of %x: freed %v, not %v", root, l, freed, want)
			}
			if left := h.Snapshot(); !slices.Equal(left, without(l, want)) {
				t.Fatalf("%x of %x: left %x", root, l, left)
			}
			dead += len(want)
			live += strings.Count(lettersOf(h.Snapshot()), "w")
		}
	}
	if dead < 10000 || live < 10000 {
		t.Errorf("%d were dead, %d live", dead, live)
	}
}

// grown fills some free cells: most of them stand ahead of the root, others hang at nothing; now and then the root is let go.
func grown(r *rand.Rand, h *cells.Heap, root api.Word) api.Word {
	if r.Intn(5) == 0 {
		root = integer(0)
	}
	for _, cell := range ofLetter(h.Snapshot(), '.') {
		switch r.Intn(4) {
		case 0, 1:
			h.Make(cell, api.KindPair, api.White, integer(cell), root)
			root = ref(cell)
		case 2:
			h.Make(cell, api.KindBox, api.White, root, integer(1))
		}
	}
	return root
}

// TestManySweeps: a sweeper goes over its heap as often as it is begun, and counts from nought each time.
func TestManySweeps(t *testing.T) {
	d := newDesk(t, "....")
	for i := range 20000 {
		letters := []byte("....")
		for cell := range letters {
			letters[cell] = ".wb"[(i/[...]int{1, 3, 9, 27}[cell])%3]
			if letters[cell] != '.' {
				d.fill(cell, letters[cell])
			}
		}
		_, freed := sweepAll(t, d.s)
		if len(freed) != strings.Count(string(letters), "w") {
			t.Fatalf("%s: freed %v", letters, freed)
		}
		sweepAll(t, d.s)
		d.letters("....")
	}
}
