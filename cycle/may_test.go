package cycle_test

import (
	"math"
	"testing"

	"dapple/api"
)

// phases are those that there are.
func phases() []api.Phase {
	return []api.Phase{api.PhaseIdle, api.PhaseRoots, api.PhaseMark, api.PhaseSweep}
}

// TestPhasesThatThereAre: of all numbers of a Phase just four, with nothing else in it.
func TestPhasesThatThereAre(t *testing.T) {
	d := desk{t}
	for phase := range 256 {
		s := api.Cycle{Phase: api.Phase(phase)}
		if phase < 4 {
			d.mayBe(s)
			continue
		}
		d.mayNotBe(s)
		d.mayNotBe(api.Cycle{Phase: s.Phase, Asked: true})
		d.mayNotBe(api.Cycle{Phase: s.Phase, Global: 1})
		d.mayNotBe(api.Cycle{Phase: s.Phase, Swept: 2, Freed: 1, Begun: 3})
	}
}

// TestBegunBounds: in each Phase.
func TestBegunBounds(t *testing.T) {
	d := desk{t}
	for _, phase := range phases() {
		for _, begun := range []int{0, 1, 2, math.MaxInt32, math.MaxInt - 2, math.MaxInt - 1} {
			d.mayBe(api.Cycle{Phase: phase, Begun: begun})
		}
		for _, begun := range []int{math.MaxInt, -1, -2, math.MinInt + 1, math.MinInt} {
			d.mayNotBe(api.Cycle{Phase: phase, Begun: begun})
		}
	}
}

// TestAskedOnlyInIdle: and there with each Begun.
func TestAskedOnlyInIdle(t *testing.T) {
	d := desk{t}
	for _, begun := range []int{0, 1, math.MaxInt - 1} {
		d.mayBe(api.Cycle{Begun: begun, Asked: true})
		for _, phase := range []api.Phase{api.PhaseRoots, api.PhaseMark, api.PhaseSweep, 4, 255} {
			d.mayNotBe(api.Cycle{Phase: phase, Begun: begun, Asked: true})
		}
	}
	d.mayNotBe(api.Cycle{Begun: math.MaxInt, Asked: true})
	d.mayNotBe(api.Cycle{Begun: -1, Asked: true})
}

// TestGlobalOnlyInRoots: there any that is not below 0; elsewhere 0.
func TestGlobalOnlyInRoots(t *testing.T) {
	d := desk{t}
	for _, phase := range phases() {
		for _, global := range []int{1, 2, api.MaxGlobals, api.MaxGlobals + 1, math.MaxInt} {
			s := api.Cycle{Phase: phase, Global: global, Begun: 1}
			if phase == api.PhaseRoots {
				d.mayBe(s)
			} else {
				d.mayNotBe(s)
			}
		}
		for _, global := range []int{-1, -2, math.MinInt} {
			d.mayNotBe(api.Cycle{Phase: phase, Global: global, Begun: 1})
		}
	}
	d.mayNotBe(api.Cycle{Global: 1, Asked: true})
	d.mayNotBe(api.Cycle{Phase: api.PhaseSweep, Global: 1, Swept: 1, Freed: 1})
}

// TestSweptAndFreedOnlyInSweep: there Freed is between 0 and Swept; elsewhere both are 0.
func TestSweptAndFreedOnlyInSweep(t *testing.T) {
	d := desk{t}
	for _, phase := range phases() {
		for _, swept := range []int{1, 2, api.MaxCells, api.MaxCells + 1, math.MaxInt} {
			for _, freed := range []int{0, 1, swept - 1, swept} {
				s := api.Cycle{Phase: phase, Swept: swept, Freed: freed}
				if phase == api.PhaseSweep {
					d.mayBe(s)
				} else {
					d.mayNotBe(s)
				}
			}
			for _, freed := range []int{-1, math.MinInt} {
				d.mayNotBe(api.Cycle{Phase: phase, Swept: swept, Freed: freed})
			}
			if swept < math.MaxInt {
				d.mayNotBe(api.Cycle{Phase: phase, Swept: swept, Freed: swept + 1})
				d.mayNotBe(api.Cycle{Phase: phase, Swept: swept, Freed: math.MaxInt})
			}
		}
		for _, swept := range []int{-1, -2, math.MinInt} {
			for _, freed := range []int{swept, swept + 1, 0, 1} {
				d.mayNotBe(api.Cycle{Phase: phase, Swept: swept, Freed: freed})
			}
		}
		for _, freed := range []int{-1, 1, math.MinInt, math.MaxInt} {
			d.mayNotBe(api.Cycle{Phase: phase, Freed: freed})
		}
	}
	d.mayNotBe(api.Cycle{Phase: api.PhaseRoots, Global: 1, Swept: 1})
	d.mayNotBe(api.Cycle{Swept: 1, Asked: true})
}

// TestFits: each number of what is around at what the collector has, one below it, at 0 and below 0, in each Phase.
func TestFits(t *testing.T) {
	d := desk{t}
	for _, s := range []api.Cycle{
		{}, {Asked: true},
		{Phase: api.PhaseRoots}, {Phase: api.PhaseRoots, Global: 1}, {Phase: api.PhaseRoots, Global: 7}, {Phase: api.PhaseRoots, Global: math.MaxInt},
		{Phase: api.PhaseMark},
		{Phase: api.PhaseSweep}, {Phase: api.PhaseSweep, Swept: 1}, {Phase: api.PhaseSweep, Swept: 9, Freed: 9}, {Phase: api.PhaseSweep, Swept: math.MaxInt, Freed: 1},
	} {
		for _, grey := range []bool{false, true} {
			fit := api.Around{Cells: s.Swept, Globals: s.Global, Grey: grey}
			d.fits(s, fit)
			for _, below := range []int{s.Swept - 1, -1, -2, math.MinInt} {
				a := fit
				a.Cells = below
				d.refused(s, a, api.ErrCycleForm)
			}
			for _, below := range []int{s.Global - 1, -1, -2, math.MinInt} {
				a := fit
				a.Globals = below
				d.refused(s, a, api.ErrCycleForm)
			}
			for _, below := range []int{-1, -2, math.MinInt} {
				for _, flags := range []api.Around{{}, {Still: true}, {Told: true}, {Still: true, Told: true}} {
					a := fit
					a.Thread, a.Still, a.Told = below, flags.Still, flags.Told
					d.refused(s, a, api.ErrCycleForm)
				}
			}
			for _, thread := range []int{1, api.MaxThreads, api.MaxThreads + 1, math.MaxInt} {
				a := fit
				a.Thread = thread
				d.fits(s, a)
			}
			for _, more := range []int{1, math.MaxInt - max(s.Swept, s.Global)} {
				if max(s.Swept, s.Global) < math.MaxInt {
					d.fits(s, api.Around{Cells: s.Swept + more, Globals: s.Global, Grey: grey})
					d.fits(s, api.Around{Cells: s.Swept, Globals: s.Global + more, Grey: grey})
				}
			}
		}
	}
}

// TestFitsAtNoughtInIdle: where the collector has nothing, nothing need be around it.
func TestFitsAtNoughtInIdle(t *testing.T) {
	d := desk{t}
	d.goes(api.Cycle{Asked: true}, api.Around{}, api.Do{What: api.StepBegin}, api.Cycle{Phase: api.PhaseRoots, Begun: 1})
	d.waits(api.Cycle{}, api.Around{})
	d.goes(api.Cycle{Phase: api.PhaseRoots}, api.Around{}, api.Do{What: api.StepCheck}, api.Cycle{Phase: api.PhaseSweep})
	d.goes(api.Cycle{Phase: api.PhaseMark}, api.Around{}, api.Do{What: api.StepCheck}, api.Cycle{Phase: api.PhaseSweep})
	d.goes(api.Cycle{Phase: api.PhaseSweep}, api.Around{}, api.Do{What: api.StepFinish}, api.Cycle{})
}
