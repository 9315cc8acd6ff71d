package cycle_test

import (
	"math"
	"testing"

	"dapple/api"
	"dapple/cycle"
)

// desk makes calls, and sees that each answers what it is told.
type desk struct{ *testing.T }

// begun is Begin of it, which must be this.
func (d desk) begun(s, want api.Cycle, e api.Errno) {
	d.Helper()
	if got, of := cycle.Begin(s); got != want || of != e {
		d.Errorf("Begin(%+v): %+v, %d, not %+v, %d", s, got, of, want, e)
	}
}

// next is Next of them, which must be this.
func (d desk) next(s api.Cycle, a api.Around, want api.Do) {
	d.Helper()
	if got := cycle.Next(s, a); got != want {
		d.Errorf("Next(%+v, %+v): %+v, not %+v", s, a, got, want)
	}
}

// stepped is Step of them, which must be this.
func (d desk) stepped(s api.Cycle, a api.Around, back bool, want api.Cycle, e api.Errno) {
	d.Helper()
	if got, of := cycle.Step(s, a, back); got != want || of != e {
		d.Errorf("Step(%+v, %+v, %t): %+v, %d, not %+v, %d", s, a, back, got, of, want, e)
	}
}

// goes sees that this is next, and where the collector is behind it, whatever `back` is.
func (d desk) goes(s api.Cycle, a api.Around, do api.Do, behind api.Cycle) {
	d.Helper()
	d.next(s, a, do)
	d.stepped(s, a, false, behind, api.OK)
	d.stepped(s, a, true, behind, api.OK)
}

// waits sees that nothing is next, and that it may be so.
func (d desk) waits(s api.Cycle, a api.Around) {
	d.Helper()
	d.refused(s, a, api.ErrCycleBusy)
}

// refused sees that nothing is next, and that Step tells this error.
func (d desk) refused(s api.Cycle, a api.Around, e api.Errno) {
	d.Helper()
	d.next(s, a, api.Do{})
	d.stepped(s, a, false, api.Cycle{}, e)
	d.stepped(s, a, true, api.Cycle{}, e)
}

// mayNotBe sees that all calls refuse it, whatever is around: also where a cycle could be refused as busy, and what is around does not fit.
func (d desk) mayNotBe(s api.Cycle) {
	d.Helper()
	d.begun(s, api.Cycle{}, api.ErrCycleForm)
	for _, a := range []api.Around{
		{},
		{Cells: math.MaxInt, Globals: math.MaxInt},
		{Cells: math.MaxInt, Globals: math.MaxInt, Thread: 1},
		{Cells: math.MaxInt, Globals: math.MaxInt, Thread: 1, Still: true, Grey: true},
		{Cells: math.MaxInt, Globals: math.MaxInt, Thread: 1, Told: true},
		{Cells: math.MaxInt, Globals: math.MaxInt, Grey: true},
		{Cells: math.MinInt, Globals: math.MinInt, Thread: math.MinInt},
		{Cells: 1, Globals: 1, Thread: -1},
	} {
		d.refused(s, a, api.ErrCycleForm)
	}
}

// mayBe sees that it may be: Begin does not tell that it may not, and with enough around it Step doesn't, either.
func (d desk) mayBe(s api.Cycle) {
	d.Helper()
	if s.Phase == api.PhaseIdle && !s.Asked {
		asked := s
		asked.Asked = true
		d.begun(s, asked, api.OK)
	} else {
		d.begun(s, api.Cycle{}, api.ErrCycleBusy)
	}
	a := api.Around{Cells: math.MaxInt, Globals: math.MaxInt}
	if _, e := cycle.Step(s, a, false); e == api.ErrCycleForm {
		d.Errorf("Step(%+v, %+v): it may not be", s, a)
	}
}

// TestErrorNumbers: as the chapter lists them.
func TestErrorNumbers(t *testing.T) {
	if api.ErrCycleBusy != 170 || api.ErrCycleForm != 171 {
		t.Error(api.ErrCycleBusy, api.ErrCycleForm)
	}
	if api.PhaseIdle != 0 || api.PhaseRoots != 1 || api.PhaseMark != 2 || api.PhaseSweep != 3 {
		t.Error("the phases")
	}
}

// TestExample1: a cycle is asked for, and begins.
func TestExample1(t *testing.T) {
	d := desk{t}
	asked := api.Cycle{Asked: true}
	behind := api.Cycle{Phase: api.PhaseRoots, Begun: 1}
	d.begun(api.Cycle{}, asked, api.OK)
	for _, a := range aroundSome() {
		if a.Cells < 0 || a.Globals < 0 || a.Thread < 0 {
			continue
		}
		d.goes(asked, a, api.Do{What: api.StepBegin}, behind)
		d.waits(api.Cycle{}, a)
	}
	d.begun(behind, api.Cycle{}, api.ErrCycleBusy)
	d.begun(asked, api.Cycle{}, api.ErrCycleBusy)
}

// TestExample2: the roots, and the first step behind them.
func TestExample2(t *testing.T) {
	d := desk{t}
	at := func(global int) api.Cycle { return api.Cycle{Phase: api.PhaseRoots, Global: global} }
	d.goes(at(0), api.Around{Globals: 2}, api.Do{What: api.StepRoot, Global: 0}, at(1))
	d.goes(at(1), api.Around{Globals: 2}, api.Do{What: api.StepRoot, Global: 1}, at(2))
	d.goes(at(2), api.Around{Globals: 2, Thread: 3}, api.Do{What: api.StepAsk, Thread: 3}, at(2))
	d.waits(at(2), api.Around{Globals: 2, Thread: 3, Told: true})
	for _, told := range []bool{false, true} {
		d.goes(at(2), api.Around{Globals: 2, Thread: 3, Still: true, Told: told}, api.Do{What: api.StepScanThread, Thread: 3}, at(2))
	}
	d.goes(at(2), api.Around{Globals: 2, Grey: true}, api.Do{What: api.StepScan}, api.Cycle{Phase: api.PhaseMark})
	d.goes(at(2), api.Around{Globals: 2}, api.Do{What: api.StepCheck}, api.Cycle{Phase: api.PhaseSweep})
}

// TestExample3: the sweep, and its end.
func TestExample3(t *testing.T) {
	d := desk{t}
	s := api.Cycle{Phase: api.PhaseSweep, Swept: 1, Freed: 1, Begun: 5}
	all := api.Cycle{Phase: api.PhaseSweep, Swept: 2, Freed: 2, Begun: 5}
	d.next(s, api.Around{Cells: 2}, api.Do{What: api.StepSweep, Cell: 1})
	d.stepped(s, api.Around{Cells: 2}, true, all, api.OK)
	d.goes(all, api.Around{Cells: 2}, api.Do{What: api.StepFinish}, api.Cycle{Begun: 5})
	d.refused(s, api.Around{Cells: 0}, api.ErrCycleForm)
	if many := cycle.Most(4, 1, 2); many != 14 {
		t.Error(many)
	}
}
