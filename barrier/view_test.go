package barrier_test

import (
	"math"
	"slices"
	"testing"

	"dapple/api"
)

// fullView is one that may be, with something of every sort: four cells, two of which are grey and one free, three globals, three lanes.
func fullView() api.View {
	return viewOf("r1 r3, grey box r2 n, free x0 r9, grey clo 0 r0", "n r3 | r0", "r0 5", "s:", "se: r1")
}

// inEachPhase are views that differ in their phase alone.
func inEachPhase(make func() api.View) []api.View {
	var out []api.View
	for p := api.PhaseIdle; p <= api.PhaseSweep; p++ {
		v := make()
		v.Phase = p
		out = append(out, v)
	}
	return out
}

// spoil holds that fullView may be, in each phase, and may not when change has changed it.
func spoil(t *testing.T, change func(v *api.View)) {
	t.Helper()
	for _, v := range inEachPhase(fullView) {
		mayBe(t, v)
		change(&v)
		refused(t, v)
	}
}

// allow holds that fullView may be when change has changed it.
func allow(t *testing.T, change func(v *api.View)) {
	t.Helper()
	for _, v := range inEachPhase(fullView) {
		change(&v)
		mayBe(t, v)
	}
}

func TestPhasesOfViews(t *testing.T) {
	for n := range 256 {
		v := fullView()
		v.Phase = api.Phase(n)
		if n <= 3 {
			mayBe(t, v)
		} else {
			refused(t, v)
		}
	}
}

func TestSwept(t *testing.T) {
	for _, n := range []int{math.MinInt, -5, -1, 5, 6, 4096, 1 << 32, math.MaxInt} {
		spoil(t, func(v *api.View) { v.Swept = n })
	}
	for n := range 5 {
		allow(t, func(v *api.View) { v.Swept = n })
	}
}

func TestLaid(t *testing.T) {
	for _, n := range []int{math.MinInt, -4, -1, 4, 5, 64, 1 << 32, math.MaxInt} {
		spoil(t, func(v *api.View) { v.Laid = n })
	}
	for n := range 4 {
		allow(t, func(v *api.View) { v.Laid = n })
	}
}

// TestKindsAndColoursOfViews: each that may be, and all others, of cells that are free and of others.
func TestKindsAndColoursOfViews(t *testing.T) {
	for kind := range 256 {
		for colour := range 256 {
			v := viewOf("n n, r0 n, n r1", "", "r1")
			v.Cells[1].Kind, v.Cells[1].Colour = api.Kind(kind), api.Colour(colour)
			v.Grey = greyOf(v.Cells)
			if kind <= 3 && colour <= 2 {
				mayBe(t, v)
			} else {
				refused(t, v)
			}
		}
	}
}

// goodWords are words of every tag, at the ends of their numbers, with references to the cells of a heap of four.
func goodWords() []api.Word {
	return append(wordsOf("n f t none 0 1 -1 s0 s2147483647 p1 p22 r0 r1 r2 r3"), bits(api.TagInt, 1<<59-1), bits(api.TagInt, -1<<59))
}

// places are where words stand in fullView.
func places() []func(v *api.View) *api.Word {
	return []func(v *api.View) *api.Word{
		func(v *api.View) *api.Word { return &v.Cells[0].A },
		func(v *api.View) *api.Word { return &v.Cells[0].B },
		func(v *api.View) *api.Word { return &v.Cells[1].A },
		func(v *api.View) *api.Word { return &v.Cells[1].B },
		func(v *api.View) *api.Word { return &v.Cells[3].A },
		func(v *api.View) *api.Word { return &v.Cells[3].B },
		func(v *api.View) *api.Word { return &v.Globals[0] },
		func(v *api.View) *api.Word { return &v.Globals[1] },
		func(v *api.View) *api.Word { return &v.Globals[2] },
		func(v *api.View) *api.Word { return &v.Lanes[0].Roots[0] },
		func(v *api.View) *api.Word { return &v.Lanes[0].Roots[1] },
		func(v *api.View) *api.Word { return &v.Lanes[2].Roots[0] },
	}
}

// TestWordsOfViews: each place takes all words that fit, and nothing else.
func TestWordsOfViews(t *testing.T) {
	for _, place := range places() {
		for _, w := range goodWords() {
			allow(t, func(v *api.View) { *place(v) = w })
		}
		for _, w := range badWords() {
			spoil(t, func(v *api.View) { *place(v) = w })
		}
	}
}

// TestWordsOfFreeCells: what they are does not matter, and nothing is named by them.
func TestWordsOfFreeCells(t *testing.T) {
	for _, w := range append(badWords(), goodWords()...) {
		allow(t, func(v *api.View) { v.Cells[2].A, v.Cells[2].B = w, w })
		v := viewOf("n n, grey free n n, black free n n, free n n", "", "s: r1 r2 r3")
		for i := range 3 {
			v.Cells[i+1].A, v.Cells[i+1].B = w, w
		}
		guards(t, v, "", "")
		holds(t, v)
	}
}

// TestRefsToTheLastCell: a reference may name the last cell, none behind it, however many there are.
func TestRefsToTheLastCell(t *testing.T) {
	for n := 1; n <= 20; n++ {
		for _, c := range []struct {
			at int
			is func(api.View)
		}{{n - 1, func(v api.View) { mayBe(t, v) }}, {n, func(v api.View) { refused(t, v) }}} {
			empty := api.View{Cells: make([]api.Cell, n), Phase: api.PhaseRoots}
			v := empty
			v.Globals = []api.Word{ref(c.at)}
			c.is(v)
			v = empty
			v.Lanes = []api.Lane{{Roots: []api.Word{wordOf("n"), ref(c.at)}}}
			c.is(v)
			v = empty
			v.Cells = append(make([]api.Cell, n-1), api.Cell{Kind: api.KindPair, A: wordOf("n"), B: ref(c.at)})
			c.is(v)
			v.Cells = append(make([]api.Cell, n-1), api.Cell{Kind: api.KindBox, A: ref(c.at), B: wordOf("n")})
			c.is(v)
		}
	}
}

// TestGrey: one too few, one too many, one twice, others that are none.
func TestGrey(t *testing.T) {
	for _, l := range [][]int{nil, {}, {1}, {3}, {1, 1}, {3, 3}, {1, 3, 3}, {1, 3, 1}, {1, 1, 3}, {1, 3, 2}, {2, 1, 3}, {1, 3, 0}, {0, 1, 3}, {1, 0}, {2, 3}, {0, 2}, {1, 3, 4}, {1, 3, -1}, {-1, 3}, {1, 4}, {1, 1 << 32}, {1, math.MinInt}, {math.MaxInt, 3}, {1, 3 + 1<<32}} {
		spoil(t, func(v *api.View) { v.Grey = slices.Clone(l) })
	}
	allow(t, func(v *api.View) { v.Grey = []int{3, 1} })
	allow(t, func(v *api.View) { v.Grey = []int{1, 3} })
}

// TestGreyThatIsFree: it does not belong to them, and one that is black or white neither.
func TestGreyThatIsFree(t *testing.T) {
	v := viewOf("grey free n n, grey n n, black n n, n n", "")
	mayBe(t, v)
	for _, l := range [][]int{nil, {0}, {1, 0}, {0, 1}, {2}, {3}, {1, 2}, {1, 3}} {
		v.Grey = l
		refused(t, v)
	}
	v = viewOf("grey free n n, n n", "")
	v.Grey = []int{0}
	refused(t, v)
	v.Grey = []int{}
	mayBe(t, v)
	v.Grey = nil
	mayBe(t, v)
}

// TestGreyInAnyOrder: all orders of four are one thing.
func TestGreyInAnyOrder(t *testing.T) {
	v := viewOf("grey r4 n, grey n n, grey n r2, grey r5 n, n n, n n", "", "s: r5")
	eachPermutation([]int{0, 1, 2, 3}, func(row []int) {
		v.Grey = slices.Clone(row)
		guards(t, v, "4 5", "4 5")
		holds(t, v)
	})
}

func eachPermutation(l []int, do func([]int)) {
	var from func(at int)
	from = func(at int) {
		if at >= len(l) {
			do(l)
			return
		}
		for i := at; i < len(l); i++ {
			l[at], l[i] = l[i], l[at]
			from(at + 1)
			l[at], l[i] = l[i], l[at]
		}
	}
	from(0)
}

// TestWrongCellsNobodyReaches: a view is refused for them too, in each phase.
func TestWrongCellsNobodyReaches(t *testing.T) {
	for _, cells := range []string{"n n, x0 n", "n n, n r2", "n n, black n x0", "n n, black r2 n"} {
		for _, v := range inEachPhase(func() api.View { return viewOf(cells, "", "r0") }) {
			refused(t, v)
		}
	}
}

// TestEmptyViews: nothing is guarded; words that are no references may stand in globals and lanes.
func TestEmptyViews(t *testing.T) {
	for _, v := range inEachPhase(func() api.View { return api.View{} }) {
		guards(t, v, "", "")
		holds(t, v)
		v.Cells, v.Grey, v.Globals, v.Lanes = []api.Cell{}, []int{}, []api.Word{}, []api.Lane{{}, {Roots: []api.Word{}, Scanned: true}}
		guards(t, v, "", "")
		holds(t, v)
		v.Globals, v.Laid = wordsOf("n 0 5 s3 p1 f t none"), 4
		v.Lanes = append(v.Lanes, laneOf("e: n 0 5 s3 p1 f t none"))
		guards(t, v, "", "")
		holds(t, v)
		v.Globals[7] = ref(0)
		refused(t, v)
		v.Globals[7] = wordOf("n")
		mayBe(t, v)
		v.Lanes[2].Roots[0] = ref(0)
		refused(t, v)
		v.Lanes = nil
		mayBe(t, v)
		v.Swept = 1
		refused(t, v)
		v.Swept = 0
		v.Grey = []int{0}
		refused(t, v)
	}
}
