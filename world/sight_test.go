package world_test

import (
	"slices"
	"testing"

	"dapple/api"
)

// looks sees that a view is what is told; its cells and globals are what Heap and Globals tell.
func (d desk) looks(want api.View) {
	d.Helper()
	want.Cells, want.Globals = d.Heap(), d.Globals()
	if got := d.View(); !sameView(got, want) {
		d.Errorf("%+v, not %+v", got, want)
	}
}

// TestViewsOfACycle: all that can be seen, behind each step of a cycle.
func TestViewsOfACycle(t *testing.T) {
	d := newDesk(t, 4, 0, 2, proc(0, some(pairInto(1, 1), newPair(2), pause(), one(do(api.OpJump, 8)))...), proc(0, append(newPair(3), do(api.OpReturn))...), waster(1))
	d.starts(0, 1, 2)
	d.skips(1, api.StepAlloc, api.StepSetGlobal, api.StepAlloc)
	d.skips(2, api.StepAlloc, api.StepEnd)
	d.wastes(3, 1)
	lanes := func(one, two, three bool) []api.Lane {
		return []api.Lane{{Roots: []api.Word{ref(1), null()}, Scanned: one}, {Roots: []api.Word{ref(2)}, Scanned: two, Ended: true}, {Roots: []api.Word{nothing(), null()}, Scanned: three}}
	}
	all := lanes(true, true, true)
	d.looks(api.View{Lanes: all})
	d.globals(nothing(), ref(0))
	d.roots(ref(1), null(), ref(2), nothing(), null(), nothing(), ref(0))
	d.collects()
	d.looks(api.View{Lanes: all})
	d.phase(api.PhaseIdle, 0)

	d.goes(0, of(api.StepBegin, 1))
	d.phase(api.PhaseRoots, 1)
	d.looks(api.View{Phase: api.PhaseRoots, Lanes: lanes(false, false, false)})
	d.goes(0, of(api.StepRoot, 0))
	d.looks(api.View{Phase: api.PhaseRoots, Laid: 1, Lanes: lanes(false, false, false)})
	d.goes(0, of(api.StepRoot, 1, 0))
	d.looks(api.View{Phase: api.PhaseRoots, Laid: 2, Grey: []int{0}, Lanes: lanes(false, false, false)})
	d.goes(0, of(api.StepAsk, 1))
	d.looks(api.View{Phase: api.PhaseRoots, Laid: 2, Grey: []int{0}, Lanes: lanes(false, false, false)})
	d.goes(1, acks(1))
	d.looks(api.View{Phase: api.PhaseRoots, Laid: 2, Grey: []int{0, 1}, Lanes: lanes(true, false, false)})
	d.goes(0, of(api.StepScanThread, 2, 2))
	d.looks(api.View{Phase: api.PhaseRoots, Laid: 2, Grey: []int{0, 1, 2}, Lanes: lanes(true, true, false)})
	d.asks(3)
	d.phase(api.PhaseRoots, 1)
	d.looks(api.View{Phase: api.PhaseRoots, Laid: 2, Grey: []int{0, 1, 2}, Lanes: all})
	d.colours(api.Grey, api.Grey, api.Grey, api.White)

	d.goes(0, scans(0))
	d.phase(api.PhaseMark, 1)
	d.looks(api.View{Phase: api.PhaseMark, Laid: 2, Grey: []int{1, 2}, Lanes: all})
	d.goes(0, scans(1))
	d.looks(api.View{Phase: api.PhaseMark, Laid: 2, Grey: []int{2}, Lanes: all})
	d.goes(0, scans(2))
	d.looks(api.View{Phase: api.PhaseMark, Laid: 2, Lanes: all})
	d.colours(api.Black, api.Black, api.Black, api.White)

	d.goes(0, checks())
	d.phase(api.PhaseSweep, 1)
	d.looks(api.View{Phase: api.PhaseSweep, Lanes: all})
	for n := range 3 {
		d.goes(0, keeps(n))
		d.looks(api.View{Phase: api.PhaseSweep, Swept: n + 1, Lanes: all})
	}
	d.colours(api.White, api.White, api.White, api.White)
	d.free()
	d.goes(0, frees(3, 0))
	d.free(3)
	d.looks(api.View{Phase: api.PhaseSweep, Swept: 4, Lanes: all})
	d.goes(0, of(api.StepFinish, 1))
	d.phase(api.PhaseIdle, 1)
	d.looks(api.View{Lanes: all})
	d.roots(ref(1), null(), ref(2), nothing(), null(), nothing(), ref(0))
	if want := []api.Cell{pair(api.White, number(1), null()), pair(api.White, number(2), null()), pair(api.White, number(3), null()), {}}; !slices.Equal(d.Heap(), want) {
		t.Error(d.Heap())
	}
}

// TestCyclesWithoutGlobals: the threads come at once; without threads, too, the cells.
func TestCyclesWithoutGlobals(t *testing.T) {
	d := newDesk(t, 5, 0, 0, turning())
	for cycle := range 3 {
		d.collects()
		d.goes(0, of(api.StepBegin, cycle+1))
		d.goes(0, checks())
		for n := range 5 {
			d.goes(0, keeps(n))
		}
		d.goes(0, of(api.StepFinish, 0))
		d.phase(api.PhaseIdle, cycle+1)
	}
	d.starts(0, 0)
	d.collects()
	d.goes(0, of(api.StepBegin, 4))
	d.asks(1)
	d.asks(2)
	d.goes(0, checks())
}

// TestGreyInOrder: what is shaded stands behind all that is grey, whoever shades it.
func TestGreyInOrder(t *testing.T) {
	// 0 (1 . 2), in a global; 3 (4 . nil) on the stack of thread 1; 5 in another global.
	d := newDesk(t, 8, 0, 2, proc(0, some(newPair(1), newPair(2), one(prim(api.PrimCons), do(api.OpSetGlobal, 0), do(api.OpPop)), newPair(3), one(layNil(), prim(api.PrimCons)), pairInto(1, 4), pause(),
		one(do(api.OpGlobal, 0), do(api.OpGlobal, 1), prim(api.PrimSetCdr), do(api.OpPop)), pause(), one(do(api.OpReturn)))...))
	d.starts(0)
	d.till(1, api.StepBreath)
	d.collects()
	d.skips(0, api.StepBegin)
	d.goes(0, of(api.StepRoot, 0, 2))
	d.skips(1, api.StepGlobal, api.StepGlobal)
	d.goes(1, stores(2, 1, ref(1), ref(5), 1, 5))
	d.looks(api.View{Phase: api.PhaseRoots, Laid: 1, Grey: []int{2, 1, 5}, Lanes: []api.Lane{{Roots: []api.Word{ref(4), nothing(), null()}}}})
	d.goes(0, of(api.StepRoot, 1))
	d.asks(1, 4)
	d.goes(0, scans(2, 0))
	d.goes(0, scans(1))
	d.looks(api.View{Phase: api.PhaseMark, Laid: 2, Grey: []int{5, 4, 0}, Lanes: []api.Lane{{Roots: []api.Word{ref(4), nothing(), null()}, Scanned: true}}})
	d.goes(0, scans(5))
	d.goes(0, scans(4, 3))
	d.goes(0, scans(0))
	d.goes(0, scans(3))
	d.goes(0, checks())
}

// TestSeeingChangesNothing: what is asked is asked again and again, and tells the same.
func TestSeeingChangesNothing(t *testing.T) {
	d := newDesk(t, 4, 1, 2, hoard(2), consing())
	d.starts(0, 1, 1)
	for n := range 60 {
		if n%25 == 3 {
			d.Collect()
		}
		d.changesNothing(func() {
			for range 3 {
				seen(d)
			}
		})
		d.Pick(uint32(n))
	}
}
