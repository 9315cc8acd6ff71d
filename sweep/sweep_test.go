package sweep_test

import (
	"slices"
	"strings"
	"testing"

	"dapple/api"
	"dapple/cells"
	"dapple/sweep"
)

// ref is the reference to a cell, by chapter 1.
func ref(n int) api.Word { return api.Word(n)<<4 | api.Word(api.TagRef) }

// integer is that number's word.
func integer(n int) api.Word { return api.Word(n)<<4 | api.Word(api.TagInt) }

// cellOf is a cell by a letter: a dot is a free one, w, g, b are colours. Its kind and its words hang on its number, so that no two that stand beside one another are alike.
func cellOf(cell int, letter byte) api.Cell {
	if letter == '.' {
		return api.Cell{}
	}
	return api.Cell{Kind: api.Kind(1 + cell%3), Colour: api.Colour(strings.IndexByte("wgb", letter)), A: integer(cell + 100), B: ref(cell + 1)}
}

// cellsOf are cells by their letters.
func cellsOf(letters string) []api.Cell {
	out := make([]api.Cell, len(letters))
	for i := range out {
		out[i] = cellOf(i, letters[i])
	}
	return out
}

// lettersOf is the way back, as far as letters tell it.
func lettersOf(l []api.Cell) string {
	out := make([]byte, len(l))
	for i, c := range l {
		out[i] = "wgb"[c.Colour]
		if c.Kind == api.KindFree {
			out[i] = '.'
		}
	}
	return string(out)
}

// heapWith is a heap with these cells.
func heapWith(l []api.Cell) *cells.Heap {
	h, e := cells.New(len(l))
	if e != api.OK {
		panic(e)
	}
	for i, c := range l {
		if c.Kind == api.KindFree {
			continue
		}
		if e := h.Make(i, c.Kind, c.Colour, c.A, c.B); e != api.OK {
			panic(e)
		}
	}
	return h
}

// desk is a sweeper and its heap, whose answers are held against what they ought to be.
type desk struct {
	*testing.T
	h *cells.Heap
	s *sweep.Sweeper
}

// deskWith is a new sweeper of a heap with these cells: all is swept, nothing freed, and no cell was changed by that.
func deskWith(t *testing.T, l []api.Cell) desk {
	t.Helper()
	h := heapWith(l)
	d := desk{t, h, sweep.New(h)}
	if d.s == nil {
		t.Fatal("New gives none")
	}
	d.tells(len(l), 0)
	d.has(l)
	return d
}

// newDesk is the same by letters.
func newDesk(t *testing.T, letters string) desk {
	t.Helper()
	return deskWith(t, cellsOf(letters))
}

// begun is a new one behind its Begin.
func begun(t *testing.T, letters string) desk {
	t.Helper()
	d := newDesk(t, letters)
	d.begins()
	return d
}

// tells: so many are swept, and so many of these were freed.
func (d desk) tells(at, freed int) {
	d.Helper()
	for range 2 {
		if d.s.At() != at || d.s.Freed() != freed || d.s.Done() != (at == d.h.Len()) {
			d.Fatalf("At %d, Freed %d, Done %v, not %d, %d", d.s.At(), d.s.Freed(), d.s.Done(), at, freed)
		}
	}
}

// has: these are the cells.
func (d desk) has(want []api.Cell) {
	d.Helper()
	if l := d.h.Snapshot(); !slices.Equal(l, want) {
		d.Fatalf("the cells are %x, not %x", l, want)
	}
}

// letters: the cells have these.
func (d desk) letters(want string) {
	d.Helper()
	if s := lettersOf(d.h.Snapshot()); s != want {
		d.Fatalf("the cells are %s, not %s", s, want)
	}
}

// begins: none is swept, none freed, and no cell is changed by that.
func (d desk) begins() {
	d.Helper()
	was := d.h.Snapshot()
	d.s.Begin()
	d.tells(0, 0)
	d.has(was)
}

// step: the next cell is swept, and it is this one; one that was free stays so, a white one is freed, a black one white, all others stay.
func (d desk) step(cell int, freed bool) {
	d.Helper()
	want, at, many := d.h.Snapshot(), d.s.At(), d.s.Freed()
	got, back, e := d.s.Step()
	if got != cell || back != freed || e != api.OK {
		d.Fatalf("Step: %d, %v, %d, not %d, %v", got, back, e, cell, freed)
	}
	want[cell].Colour = api.White
	if freed {
		want[cell] = api.Cell{}
		many++
	}
	d.has(want)
	d.tells(at+1, many)
}

// steps: so the next cells are swept: each letter is what the cell was.
func (d desk) steps(from int, letters string) {
	d.Helper()
	for i, letter := range letters {
		d.step(from+i, letter == 'w')
	}
}

// refused: again and again, and nothing is done.
func (d desk) refused() {
	d.Helper()
	was, at, freed := d.h.Snapshot(), d.s.At(), d.s.Freed()
	for range 3 {
		if cell, back, e := d.s.Step(); cell != 0 || back || e != api.ErrSweepForm {
			d.Fatalf("Step: %d, %v, %d", cell, back, e)
		}
		d.has(was)
		d.tells(at, freed)
	}
}

// turn: somebody else gives the cell another colour, by its letter.
func (d desk) turn(cell int, to byte) {
	d.Helper()
	at, freed := d.s.At(), d.s.Freed()
	_, from, _ := d.h.Head(cell)
	if !d.h.Turn(cell, from, cellOf(cell, to).Colour) {
		d.Fatalf("the cell %d is not turned", cell)
	}
	d.tells(at, freed)
}

// drop: somebody else makes the cell free.
func (d desk) drop(cell int) {
	d.Helper()
	at, freed := d.s.At(), d.s.Freed()
	if e := d.h.Drop(cell); e != api.OK {
		d.Fatalf("Drop(%d): %d", cell, e)
	}
	d.tells(at, freed)
}

// fill: somebody else makes the cell, by its letter.
func (d desk) fill(cell int, letter byte) {
	d.Helper()
	at, freed := d.s.At(), d.s.Freed()
	c := cellOf(cell, letter)
	if e := d.h.Make(cell, c.Kind, c.Colour, c.A, c.B); e != api.OK {
		d.Fatalf("Make(%d): %d", cell, e)
	}
	d.tells(at, freed)
}

// write: somebody else lays a word there.
func (d desk) write(cell, field int, w api.Word) {
	d.Helper()
	at, freed := d.s.At(), d.s.Freed()
	if _, e := d.h.Swap(cell, field, w); e != api.OK {
		d.Fatalf("Swap(%d, %d): %d", cell, field, e)
	}
	d.tells(at, freed)
}

// TestExamples is examples 1 and 3 of the chapter.
func TestExamples(t *testing.T) {
	d := deskWith(t, []api.Cell{
		{Kind: api.KindPair, Colour: api.Black, A: integer(1), B: ref(1)},
		{Kind: api.KindBox, A: integer(5)}, {}, {Kind: api.KindPair, A: ref(0), B: ref(3)},
	})
	if !d.s.Done() {
		t.Error("a new one is not done")
	}
	d.begins()
	d.step(0, false)
	d.step(1, true)
	d.step(2, false)
	d.step(3, true)
	d.refused()
	d.tells(4, 2)
	d.has([]api.Cell{{Kind: api.KindPair, A: integer(1), B: ref(1)}, {}, {}, {}})
	d.begins()
	d.step(0, true)
	d.step(1, false)
	d.step(2, false)
	d.step(3, false)
	d.tells(4, 1)
	d.letters("....")
}

// TestExampleOfAGreyOne is example 2.
func TestExampleOfAGreyOne(t *testing.T) {
	d := begun(t, "bg.w")
	d.step(0, false)
	for range 10 {
		d.refused()
	}
	d.tells(1, 0)
	d.turn(1, 'b')
	d.step(1, false)
	d.tells(2, 0)
}

// TestErrorsNumber: it is the one of the chapter.
func TestErrorsNumber(t *testing.T) {
	if _, _, e := newDesk(t, "....").s.Step(); e != 160 {
		t.Errorf("the error is %d", e)
	}
}

// every has cells of each kind and colour, free ones between them, with words of all sorts, as often as it takes.
func every(many int) []api.Cell {
	some := []api.Word{0, 1, integer(-1), ref(0), ref(many - 1), ref(many), ref(1<<31 - 1), 1<<64 - 1, 18}
	var out []api.Cell
	for i := range many {
		var c api.Cell
		if i%4 != 2 {
			c = api.Cell{Kind: api.Kind(1 + i/4%3), Colour: api.Colour((i + i/12) % 3), A: some[i%9], B: some[i*5%7]}
		}
		out = append(out, c)
	}
	return out
}

// TestEveryIsThere: the cells that the tests below lean on are of each kind and colour, and free.
func TestEveryIsThere(t *testing.T) {
	met := map[[2]int]int{}
	for _, c := range every(64) {
		met[[2]int{int(c.Kind), int(c.Colour)}]++
	}
	if len(met) != 10 {
		t.Errorf("%v", met)
	}
}

// sizes are the least and the greatest that a heap can have, and some between.
func sizes() []int { return []int{api.MinCells, 5, 63, 64, 65, 1000, api.MaxCells - 1, api.MaxCells} }

// TestNew: of each size, with cells of every kind and colour, all is swept, nothing freed; there is no step.
func TestNew(t *testing.T) {
	for _, many := range sizes() {
		d := deskWith(t, every(many))
		d.tells(many, 0)
		d.refused()
		d.has(every(many))
	}
}

// TestNewOfEachCell: whatever the heap is of, its first and its last cell among that.
func TestNewOfEachCell(t *testing.T) {
	for _, letters := range []string{"....", "wwww", "gggg", "bbbb", "w...", "g...", "b...", "...w", "...g", "...b", "wgb.", ".bgw"} {
		d := newDesk(t, letters)
		d.tells(4, 0)
		d.refused()
		d.letters(letters)
	}
}

// TestEachSize: of a heap of each size just as many cells are swept as there are.
func TestEachSize(t *testing.T) {
	for _, many := range sizes() {
		l := every(many)
		freed := 0
		for i := range l {
			// What is grey would hold the sweep up.
			if l[i].Colour == api.Grey {
				l[i].Colour = api.Black
			}
			if l[i].Kind != api.KindFree && l[i].Colour == api.White {
				freed++
			}
		}
		h := heapWith(l)
		s := sweep.New(h)
		s.Begin()
		for i, c := range l {
			if s.Done() || s.At() != i {
				t.Fatalf("of %d: At %d, Done %v, not %d", many, s.At(), s.Done(), i)
			}
			if cell, back, e := s.Step(); cell != i || back != (c.Kind != api.KindFree && c.Colour == api.White) || e != api.OK {
				t.Fatalf("of %d: Step: %d, %v, %d", many, cell, back, e)
			}
			if l[i].Colour = api.White; c.Colour == api.White {
				l[i] = api.Cell{}
			}
		}
		d := desk{t, h, s}
		d.tells(many, freed)
		d.refused()
		d.has(l)
	}
}

// TestBeginOfANewOne: as often as it is called.
func TestBeginOfANewOne(t *testing.T) {
	d := newDesk(t, "wb.g")
	for range 3 {
		d.begins()
	}
	d.steps(0, "wb.")
	d.refused()
	d.letters(".w.g")
}

// TestBeginUnderWay: behind each number of steps none is swept, none freed, and the cells stay as the steps left them.
func TestBeginUnderWay(t *testing.T) {
	for many := range 9 {
		d := begun(t, "wbw.bwwb")
		d.steps(0, "wbw.bwwb"[:many])
		left := lettersOf(d.h.Snapshot())
		d.begins()
		d.letters(left)
		d.steps(0, left)
		d.refused()
		d.tells(8, strings.Count(left, "w"))
	}
}

// TestBeginOfOneThatIsDone: sweep behind sweep, what was black is freed by the second one, and then nothing is left.
func TestBeginOfOneThatIsDone(t *testing.T) {
	d := begun(t, "bw.b")
	d.steps(0, "bw.b")
	d.refused()
	d.begins()
	d.steps(0, "w..w")
	d.refused()
	for range 3 {
		d.begins()
		d.steps(0, "....")
		d.refused()
		d.tells(4, 0)
	}
}

// TestBeginOfOneThatIsRefused: it goes from the first cell on, and is refused there again.
func TestBeginOfOneThatIsRefused(t *testing.T) {
	d := begun(t, "bwg.")
	d.steps(0, "bw")
	d.refused()
	d.begins()
	d.steps(0, "w.")
	d.refused()
	d.tells(2, 1)
	d.turn(2, 'w')
	d.begins()
	d.steps(0, "..w.")
	d.tells(4, 1)
	d = begun(t, "gwww")
	d.refused()
	d.begins()
	d.refused()
	d.tells(0, 0)
	d.letters("gwww")
}
