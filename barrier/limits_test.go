package barrier_test

import (
	"slices"
	"testing"

	"dapple/api"
	"dapple/barrier"
)

// chain is a heap of white pairs of which each one names the next one, by A or by B, up or down, and the last one nothing.
func chain(n int, byB, down bool) []api.Cell {
	h := make([]api.Cell, n)
	for i := range h {
		next := i + 1
		if down {
			next = i - 1
		}
		w := wordOf("n")
		if next >= 0 && next < n {
			w = ref(next)
		}
		h[i] = api.Cell{Kind: api.KindPair, A: w, B: wordOf("1")}
		if byB {
			h[i].A, h[i].B = h[i].B, h[i].A
		}
	}
	return h
}

// guardsFrom holds that just the cells from one to another one (without it) are guarded, and of them those from a third one on well.
func guardsFrom(t *testing.T, v api.View, from, to, well int) {
	t.Helper()
	want, wantWell := make([]bool, len(v.Cells)), make([]bool, len(v.Cells))
	for i := from; i < to; i++ {
		want[i], wantWell[i] = true, i >= well
	}
	gotBy, gotWell, e := barrier.Guarded(v)
	if e != api.OK || !slices.Equal(gotBy, want) || !slices.Equal(gotWell, wantWell) {
		t.Errorf("a chain of %d: %d", len(v.Cells), e)
	}
}

// TestLongChains: as long as a heap may be, and as long as anything may be nested.
func TestLongChains(t *testing.T) {
	for _, n := range []int{api.MaxCells - 1, api.MaxCells, 65536} {
		for _, byB := range []bool{false, true} {
			v := api.View{Cells: chain(n, byB, false), Phase: api.PhaseMark, Globals: wordsOf("r0")}
			guardsFrom(t, v, 0, n, 0)
			holds(t, v)
			v.Laid = 1
			guardsFrom(t, v, 0, 0, 0)
			breaks(t, v, 0)
			v.Lanes = []api.Lane{{Roots: wordsOf("r0")}, {Roots: []api.Word{ref(n / 2)}, Ended: true}}
			guardsFrom(t, v, 0, n, n/2)
			breaks(t, v, 0)
			v.Laid = 0
			holds(t, v)

			v = api.View{Cells: chain(n, byB, true), Phase: api.PhaseRoots, Lanes: []api.Lane{{Roots: []api.Word{ref(n - 1)}}}}
			guardsFrom(t, v, 0, n, n)
			holds(t, v)
			v.Lanes[0].Scanned = true
			breaks(t, v, 0)
		}
	}
}

// TestBrokenChains: a cell that is not white ends what is guarded; behind a free one nothing is live.
func TestBrokenChains(t *testing.T) {
	for _, spoil := range []func(c *api.Cell){
		func(c *api.Cell) { c.Kind = api.KindFree },
		func(c *api.Cell) { c.Colour = api.Black },
	} {
		v := api.View{Cells: chain(api.MaxCells, false, false), Phase: api.PhaseMark, Globals: wordsOf("r0")}
		spoil(&v.Cells[2000])
		guardsFrom(t, v, 0, 2000, 0)
		if v.Cells[2000].Kind == api.KindFree {
			holds(t, v)
		} else {
			breaks(t, v, 2001)
		}
	}
}

// TestLongRing: the last cell names the first one.
func TestLongRing(t *testing.T) {
	v := api.View{Cells: chain(api.MaxCells, true, false), Phase: api.PhaseMark, Lanes: []api.Lane{{Roots: wordsOf("r100")}}}
	v.Cells[api.MaxCells-1].B = ref(0)
	guardsFrom(t, v, 0, api.MaxCells, api.MaxCells)
	holds(t, v)
	v.Cells[100].Colour, v.Grey = api.Grey, []int{100}
	v.Lanes[0].Scanned = true
	by, well, e := barrier.Guarded(v)
	want := slices.Repeat([]bool{true}, api.MaxCells)
	want[100] = false
	if e != api.OK || !slices.Equal(by, want) || !slices.Equal(well, want) {
		t.Errorf("%d", e)
	}
	holds(t, v)
}

// TestAllGrey: as many as there are, in falling order; one of them twice in place of another one.
func TestAllGrey(t *testing.T) {
	v := api.View{Cells: chain(api.MaxCells, true, false), Phase: api.PhaseMark, Swept: api.MaxCells}
	for i := range v.Cells {
		v.Cells[i].Colour = api.Grey
		v.Grey = append(v.Grey, api.MaxCells-1-i)
	}
	guardsFrom(t, v, 0, 0, 0)
	holds(t, v)
	v.Grey[4095] = 1
	refused(t, v)
	v.Grey = v.Grey[:4095]
	refused(t, v)
}

// TestManyLanesAndRoots: there may be as many as like to be, beyond the limits of a world too.
func TestManyLanesAndRoots(t *testing.T) {
	v := api.View{Cells: chain(api.MaxCells, false, false), Phase: api.PhaseRoots}
	for i := range 300 {
		l := api.Lane{Scanned: true, Ended: i%2 == 0}
		for j := range 300 {
			l.Roots = append(l.Roots, ref((i*300+j)%api.MaxCells))
		}
		v.Lanes = append(v.Lanes, l)
		v.Globals = append(v.Globals, wordOf("n"))
	}
	v.Laid = 300
	breaks(t, v, 0)
	v.Globals[299], v.Laid = ref(0), 299
	guardsFrom(t, v, 0, api.MaxCells, 0)
	holds(t, v)
	v.Lanes[299].Roots[299] = ref(api.MaxCells)
	refused(t, v)
}

// TestGreatTree: as many cells as may be, each of which names two others; the least wrong one hangs on the greatest one.
func TestGreatTree(t *testing.T) {
	v := api.View{Cells: make([]api.Cell, api.MaxCells), Phase: api.PhaseMark, Lanes: []api.Lane{{Roots: []api.Word{ref(4094)}}}}
	for i := range v.Cells {
		v.Cells[i] = api.Cell{Kind: api.KindPair, A: wordOf("n"), B: wordOf("n")}
		if at := 4094 - i; 2*at+2 < 4095 {
			v.Cells[i].A, v.Cells[i].B = ref(4094-(2*at+1)), ref(4094-(2*at+2))
		}
	}
	guardsFrom(t, v, 0, 4095, 4095)
	holds(t, v)
	v.Cells[4094].Colour = api.Black
	breaks(t, v, 0)
	v.Cells[4094].Colour, v.Grey = api.Grey, []int{4094}
	guardsFrom(t, v, 0, 4094, 0)
	holds(t, v)
}

// TestShadesInGreatHeaps: the last cell of as many as may be.
func TestShadesInGreatHeaps(t *testing.T) {
	for _, n := range []int{api.MaxCells, 65536} {
		h := chain(n, false, false)
		shades(t, barrier.Store(api.PhaseMark, false, ref(n-1), ref(0), h), n-1, 0)
		shades(t, barrier.Store(api.PhaseMark, false, ref(n), ref(n+1), h))
		shades(t, barrier.Fill(api.PhaseRoots, false, ref(n-1), ref(n-2), h), n-1, n-2)
	}
}
