package cycle_test

import (
	"math"
	"testing"

	"dapple/api"
	"dapple/cycle"
)

// flags hands on every mix of the three that are told of what is around.
func flags(do func(still, told, grey bool)) {
	for mix := range 8 {
		do(mix&1 != 0, mix&2 != 0, mix&4 != 0)
	}
}

// TestIdle: what is around does not matter, as long as it fits.
func TestIdle(t *testing.T) {
	d := desk{t}
	flags(func(still, told, grey bool) {
		for _, thread := range []int{0, 1, 8, math.MaxInt} {
			for _, many := range []int{0, 1, 4096, math.MaxInt} {
				a := api.Around{Cells: many, Globals: many, Thread: thread, Still: still, Told: told, Grey: grey}
				for _, begun := range []int{0, 1, math.MaxInt - 2} {
					d.waits(api.Cycle{Begun: begun}, a)
					d.goes(api.Cycle{Begun: begun, Asked: true}, a, api.Do{What: api.StepBegin}, api.Cycle{Phase: api.PhaseRoots, Begun: begun + 1})
				}
			}
		}
	})
}

// TestLastBegun: the last number that may be is counted up all the same; what comes of it may not be.
func TestLastBegun(t *testing.T) {
	d := desk{t}
	last := api.Cycle{Begun: math.MaxInt - 1, Asked: true}
	beyond := api.Cycle{Phase: api.PhaseRoots, Begun: math.MaxInt}
	d.begun(api.Cycle{Begun: math.MaxInt - 1}, last, api.OK)
	d.goes(last, api.Around{}, api.Do{What: api.StepBegin}, beyond)
	d.mayNotBe(beyond)
	d.goes(api.Cycle{Phase: api.PhaseSweep, Begun: math.MaxInt - 1}, api.Around{}, api.Do{What: api.StepFinish}, api.Cycle{Begun: math.MaxInt - 1})
	d.goes(api.Cycle{Phase: api.PhaseRoots, Begun: math.MaxInt - 1}, api.Around{Globals: 1}, api.Do{What: api.StepRoot}, api.Cycle{Phase: api.PhaseRoots, Global: 1, Begun: math.MaxInt - 1})
}

// TestRootsGlobalsFirst: as long as a global is left, whatever else is around.
func TestRootsGlobalsFirst(t *testing.T) {
	d := desk{t}
	flags(func(still, told, grey bool) {
		for _, thread := range []int{0, 1, 8, math.MaxInt} {
			for _, global := range []int{0, 1, 2, 63, 64, math.MaxInt - 1} {
				for _, globals := range []int{global + 1, min(global, math.MaxInt-2) + 2, math.MaxInt} {
					if global >= globals {
						continue
					}
					s := api.Cycle{Phase: api.PhaseRoots, Global: global, Begun: 3}
					a := api.Around{Cells: 4, Globals: globals, Thread: thread, Still: still, Told: told, Grey: grey}
					behind := s
					behind.Global = global + 1
					d.goes(s, a, api.Do{What: api.StepRoot, Global: global}, behind)
				}
			}
		}
	})
}

// TestRootsThreadsThen: with no global left, a thread ahead of what is grey.
func TestRootsThreadsThen(t *testing.T) {
	d := desk{t}
	flags(func(still, told, grey bool) {
		for _, thread := range []int{1, 2, 8, 9, math.MaxInt} {
			for _, globals := range []int{0, 1, 64, math.MaxInt} {
				s := api.Cycle{Phase: api.PhaseRoots, Global: globals, Begun: 3}
				a := api.Around{Cells: 4, Globals: globals, Thread: thread, Still: still, Told: told, Grey: grey}
				switch {
				case still:
					d.goes(s, a, api.Do{What: api.StepScanThread, Thread: thread}, s)
				case told:
					d.waits(s, a)
				default:
					d.goes(s, a, api.Do{What: api.StepAsk, Thread: thread}, s)
				}
			}
		}
	})
}

// TestRootsAsMarkLast: with nothing left to lay it is as in PhaseMark; Still and Told of nobody mean nothing.
func TestRootsAsMarkLast(t *testing.T) {
	d := desk{t}
	flags(func(still, told, grey bool) {
		for _, globals := range []int{0, 1, 64, math.MaxInt} {
			s := api.Cycle{Phase: api.PhaseRoots, Global: globals, Begun: 3}
			d.marks(s, api.Around{Cells: 4, Globals: globals, Still: still, Told: told, Grey: grey})
			d.marks(s, api.Around{Globals: globals, Still: still, Told: told, Grey: grey})
		}
	})
}

// marks sees that the grey ones are next, and, if there are none, the check.
func (d desk) marks(s api.Cycle, a api.Around) {
	d.Helper()
	if a.Grey {
		d.goes(s, a, api.Do{What: api.StepScan}, api.Cycle{Phase: api.PhaseMark, Begun: s.Begun})
	} else {
		d.goes(s, a, api.Do{What: api.StepCheck}, api.Cycle{Phase: api.PhaseSweep, Begun: s.Begun})
	}
}

// fits sees that what is around is not refused.
func (d desk) fits(s api.Cycle, a api.Around) {
	d.Helper()
	if _, e := cycle.Step(s, a, false); e == api.ErrCycleForm {
		d.Errorf("Step(%+v, %+v): it does not fit", s, a)
	}
	rests := s.Phase == api.PhaseIdle && !s.Asked
	if do := cycle.Next(s, a); (do.What == 0) != rests {
		d.Errorf("Next(%+v, %+v): %+v", s, a, do)
	}
}

// TestMark: globals and threads do not matter any more.
func TestMark(t *testing.T) {
	d := desk{t}
	flags(func(still, told, grey bool) {
		for _, thread := range []int{0, 1, 8, math.MaxInt} {
			for _, many := range []int{0, 1, 64, math.MaxInt} {
				a := api.Around{Cells: many, Globals: many, Thread: thread, Still: still, Told: told, Grey: grey}
				d.marks(api.Cycle{Phase: api.PhaseMark}, a)
				d.marks(api.Cycle{Phase: api.PhaseMark, Begun: math.MaxInt - 1}, a)
			}
		}
	})
}

// TestSweep: cell by cell, rising; `back` counts here alone; what is grey, threads and globals do not matter.
func TestSweep(t *testing.T) {
	d := desk{t}
	flags(func(still, told, grey bool) {
		for _, thread := range []int{0, 1, 8, math.MaxInt} {
			a := api.Around{Globals: thread, Thread: thread, Still: still, Told: told, Grey: grey}
			for _, swept := range []int{0, 1, 2, 4095, math.MaxInt - 1} {
				for _, freed := range []int{0, swept / 2, swept} {
					s := api.Cycle{Phase: api.PhaseSweep, Swept: swept, Freed: freed, Begun: 3}
					for _, cells := range []int{swept + 1, math.MaxInt} {
						a.Cells = cells
						d.next(s, a, api.Do{What: api.StepSweep, Cell: swept})
						d.stepped(s, a, false, api.Cycle{Phase: api.PhaseSweep, Swept: swept + 1, Freed: freed, Begun: 3}, api.OK)
						d.stepped(s, a, true, api.Cycle{Phase: api.PhaseSweep, Swept: swept + 1, Freed: freed + 1, Begun: 3}, api.OK)
					}
				}
			}
		}
	})
}

// TestFinish: when all cells are swept, whatever else is around; Begun stays, and a new cycle may be asked for.
func TestFinish(t *testing.T) {
	d := desk{t}
	flags(func(still, told, grey bool) {
		for _, thread := range []int{0, 1, 8, math.MaxInt} {
			for _, swept := range []int{0, 1, 2, 4096, math.MaxInt} {
				for _, freed := range []int{0, swept / 2, swept} {
					s := api.Cycle{Phase: api.PhaseSweep, Swept: swept, Freed: freed, Begun: 3}
					a := api.Around{Cells: swept, Globals: thread, Thread: thread, Still: still, Told: told, Grey: grey}
					d.goes(s, a, api.Do{What: api.StepFinish}, api.Cycle{Begun: 3})
				}
			}
		}
	})
	d.begun(api.Cycle{Begun: 3}, api.Cycle{Begun: 3, Asked: true}, api.OK)
}

// TestMost: at each bound of each of the three, and one beyond.
func TestMost(t *testing.T) {
	const top = math.MaxInt32
	for _, c := range [][4]int{
		{0, 0, 0, 3}, {1, 0, 0, 5}, {0, 1, 0, 4}, {0, 0, 1, 4}, {1, 1, 1, 7}, {4, 1, 2, 14}, {2, 3, 5, 15},
		{4096, 64, 8, 8267}, {4, 0, 1, 12},
		{top, 0, 0, 4294967297}, {0, top, 0, 2147483650}, {0, 0, top, 2147483650}, {top, top, top, 8589934591},
		{top - 1, top, 1, 6442450943}, {top, 1, top - 1, 6442450944},
	} {
		if many := cycle.Most(c[0], c[1], c[2]); many != c[3] {
			t.Errorf("Most(%d, %d, %d): %d, not %d", c[0], c[1], c[2], many, c[3])
		}
	}
	for _, bad := range []int{-1, -2, math.MinInt32, math.MinInt, top + 1, top + 2, 1 << 32, 1<<32 + 1, math.MaxInt} {
		for _, other := range []int{0, 1, 7, top} {
			for _, c := range [][3]int{
				{bad, other, other}, {other, bad, other}, {other, other, bad},
				{bad, bad, other}, {bad, other, bad}, {other, bad, bad}, {bad, bad, bad},
				{bad, -bad, other}, {-1, bad, other}, {other, bad, top + 1},
			} {
				if many := cycle.Most(c[0], c[1], c[2]); many != 0 {
					t.Errorf("Most(%d, %d, %d): %d", c[0], c[1], c[2], many)
				}
			}
		}
	}
}
