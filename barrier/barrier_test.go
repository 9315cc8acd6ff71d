package barrier_test

import (
	"fmt"
	"slices"
	"strconv"
	"strings"
	"testing"

	"dapple/api"
	"dapple/barrier"
)

// bits is the word of a tag and a number by chapter 1, or what no word is.
func bits(t api.Tag, n int64) api.Word { return api.Word(n)<<4 | api.Word(t) }

// ref is the reference to a cell, or what looks like one.
func ref(n int) api.Word { return bits(api.TagRef, int64(n)) }

// wordOf reads a word: n, f, t, none; r3, s3, p3 are a reference, a symbol, a primitive, a number alone is one; x with hexadecimal digits is any bits.
func wordOf(s string) api.Word {
	switch s {
	case "n":
		return bits(api.TagNil, 0)
	case "f":
		return bits(api.TagFalse, 0)
	case "t":
		return bits(api.TagTrue, 0)
	case "none":
		return bits(api.TagNone, 0)
	}
	if digits, ok := strings.CutPrefix(s, "x"); ok {
		n, err := strconv.ParseUint(digits, 16, 64)
		if err != nil {
			panic(err)
		}
		return api.Word(n)
	}
	tag, digits := api.TagInt, s
	switch s[0] {
	case 'r':
		tag, digits = api.TagRef, s[1:]
	case 's':
		tag, digits = api.TagSymbol, s[1:]
	case 'p':
		tag, digits = api.TagPrim, s[1:]
	}
	n, err := strconv.ParseInt(digits, 10, 64)
	if err != nil {
		panic(err)
	}
	return bits(tag, n)
}

// wordsOf reads words with blanks between.
func wordsOf(s string) []api.Word {
	var out []api.Word
	for _, f := range strings.Fields(s) {
		out = append(out, wordOf(f))
	}
	return out
}

// heapOf reads cells with commas between: "r2 n" is a white pair, "box 5 n", "clo 0 r1", "free x0 r9" say their kinds; "grey" or "black" may stand ahead.
func heapOf(s string) []api.Cell {
	var out []api.Cell
	if strings.TrimSpace(s) == "" {
		return nil
	}
	for _, part := range strings.Split(s, ",") {
		out = append(out, cellOf(strings.Fields(part)))
	}
	return out
}

func cellOf(fields []string) api.Cell {
	c := api.Cell{Kind: api.KindPair}
	for len(fields) > 2 {
		switch fields[0] {
		case "free":
			c.Kind = api.KindFree
		case "box":
			c.Kind = api.KindBox
		case "clo":
			c.Kind = api.KindClosure
		case "grey":
			c.Colour = api.Grey
		case "black":
			c.Colour = api.Black
		default:
			panic(fields[0])
		}
		fields = fields[1:]
	}
	c.A, c.B = wordOf(fields[0]), wordOf(fields[1])
	return c
}

// laneOf reads a lane: its Roots, ahead of which may stand "s:" (it is Scanned), "e:" (it has Ended) or "se:".
func laneOf(s string) api.Lane {
	head, roots, ok := strings.Cut(s, ":")
	if !ok {
		return api.Lane{Roots: wordsOf(s)}
	}
	return api.Lane{Roots: wordsOf(roots), Scanned: strings.Contains(head, "s"), Ended: strings.Contains(head, "e")}
}

// viewOf reads a view in PhaseMark: of its globals those ahead of "|" have been laid; Grey is as it must be.
func viewOf(cells, globals string, lanes ...string) api.View {
	v := api.View{Cells: heapOf(cells), Phase: api.PhaseMark}
	laid, ahead, ok := strings.Cut(globals, "|")
	if !ok {
		laid, ahead = "", globals
	}
	v.Globals = wordsOf(laid + " " + ahead)
	v.Laid = len(wordsOf(laid))
	for _, l := range lanes {
		v.Lanes = append(v.Lanes, laneOf(l))
	}
	v.Grey = greyOf(v.Cells)
	return v
}

// greyOf are the cells that are grey and not free.
func greyOf(h []api.Cell) []int {
	var out []int
	for i, c := range h {
		if c.Kind != api.KindFree && c.Colour == api.Grey {
			out = append(out, i)
		}
	}
	return out
}

// told is a view for a message, cut where it is long.
func told(v api.View) string {
	s := fmt.Sprintf("phase %d, swept %d, cells %x, grey %v, globals %x, %d laid", v.Phase, v.Swept, v.Cells, v.Grey, v.Globals, v.Laid)
	for _, l := range v.Lanes {
		s += fmt.Sprintf(", lane %x %v %v", l.Roots, l.Scanned, l.Ended)
	}
	return s[:min(len(s), 900)]
}

// marks are truths of so many cells, true of those that are listed.
func marks(n int, cells ...int) []bool {
	out := make([]bool, n)
	for _, cell := range cells {
		out[cell] = true
	}
	return out
}

// numbersOf reads numbers with blanks between.
func numbersOf(s string) []int {
	var out []int
	for _, f := range strings.Fields(s) {
		n, err := strconv.Atoi(f)
		if err != nil {
			panic(err)
		}
		out = append(out, n)
	}
	return out
}

// guards holds that just these cells are guarded, and just these ones well.
func guards(t *testing.T, v api.View, wantBy, wantWell string) {
	t.Helper()
	by, well, e := barrier.Guarded(v)
	n := len(v.Cells)
	if e != api.OK || !slices.Equal(by, marks(n, numbersOf(wantBy)...)) || !slices.Equal(well, marks(n, numbersOf(wantWell)...)) {
		t.Errorf("Guarded of %s: %v, %v, %d, not %q and %q", told(v), by, well, e, wantBy, wantWell)
	}
}

// holds holds that Holds is true, and 0.
func holds(t *testing.T, v api.View) {
	t.Helper()
	if ok, cell, e := barrier.Holds(v); !ok || cell != 0 || e != api.OK {
		t.Errorf("Holds of %s: %v, %d, %d", told(v), ok, cell, e)
	}
}

// breaks holds that Holds is false, and tells this cell.
func breaks(t *testing.T, v api.View, want int) {
	t.Helper()
	if ok, cell, e := barrier.Holds(v); ok || cell != want || e != api.OK {
		t.Errorf("Holds of %s: %v, %d, %d, not %d", told(v), ok, cell, e, want)
	}
}

// refused holds that a view may not be, and nothing is answered beside.
func refused(t *testing.T, v api.View) {
	t.Helper()
	if by, well, e := barrier.Guarded(v); e != api.ErrBarrierForm || len(by) > 0 || len(well) > 0 {
		t.Errorf("Guarded of %s: %v, %v, %d", told(v), by, well, e)
	}
	if ok, cell, e := barrier.Holds(v); e != api.ErrBarrierForm || ok || cell != 0 {
		t.Errorf("Holds of %s: %v, %d, %d", told(v), ok, cell, e)
	}
}

// mayBe holds that a view is not refused.
func mayBe(t *testing.T, v api.View) {
	t.Helper()
	if by, well, e := barrier.Guarded(v); e != api.OK || len(by) != len(v.Cells) || len(well) != len(v.Cells) {
		t.Errorf("Guarded of %s: %v, %v, %d", told(v), by, well, e)
	}
	if _, _, e := barrier.Holds(v); e != api.OK {
		t.Errorf("Holds of %s: %d", told(v), e)
	}
}

// shades holds cells that are shaded against those that are wanted.
func shades(t *testing.T, got []int, want ...int) {
	t.Helper()
	if !slices.Equal(got, want) {
		t.Errorf("%v are shaded, not %v", got, want)
	}
}

func TestNumbersOfErrors(t *testing.T) {
	if api.OK != 0 || api.ErrBarrierForm != 130 {
		t.Errorf("%d, %d", api.OK, api.ErrBarrierForm)
	}
}

func TestFirstExample(t *testing.T) {
	h := heapOf("n n, n n")
	shades(t, barrier.Store(api.PhaseMark, true, ref(0), ref(1), h), 0)
	shades(t, barrier.Store(api.PhaseMark, false, ref(0), ref(1), h), 0, 1)
	shades(t, barrier.Store(api.PhaseMark, false, ref(0), ref(0), h), 0)
	shades(t, barrier.Store(api.PhaseMark, true, ref(0), ref(1), heapOf("black n n, n n")))
	shades(t, barrier.Store(api.PhaseSweep, true, ref(0), ref(1), h))
	shades(t, barrier.Store(api.PhaseSweep, false, ref(0), ref(1), h))
	shades(t, barrier.Fill(api.PhaseRoots, false, ref(1), ref(0), h), 1, 0)
	shades(t, barrier.Fill(api.PhaseRoots, true, ref(1), ref(0), h))
}

func TestSecondExample(t *testing.T) {
	births(t, api.PhaseSweep, 3, 3, api.Black)
	births(t, api.PhaseSweep, 2, 3, api.White)
	births(t, api.PhaseMark, 2, 9, api.Black)
	births(t, api.PhaseIdle, 2, 0, api.White)
}

func TestThirdExample(t *testing.T) {
	v := viewOf("n n", "", "r0")
	guards(t, v, "0", "")
	holds(t, v)
	v = viewOf("n n", "", "s: r0")
	guards(t, v, "", "")
	breaks(t, v, 0)
	v = viewOf("n n, grey r0 n", "", "s: r0")
	guards(t, v, "0", "0")
	holds(t, v)
}

func TestFourthExample(t *testing.T) {
	v := viewOf("n n, black r0 n", "", "r1 r0")
	guards(t, v, "0", "")
	breaks(t, v, 0)
}
