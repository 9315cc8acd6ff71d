package world_test

import (
	"slices"
	"testing"

	"dapple/api"
)

// TestErrorNumbers: as the chapter lists them.
func TestErrorNumbers(t *testing.T) {
	got := []api.Errno{api.ErrArg, api.ErrLocksMuch, api.ErrWorldThread, api.ErrBusy}
	if want := []api.Errno{1, 194, 201, 202}; !slices.Equal(got, want) {
		t.Error(got)
	}
}

// TestExample1: a cell is filled, looked into, the thread ends with 5.
func TestExample1(t *testing.T) {
	d := newDesk(t, 4, 0, 0, consing())
	d.ready()
	d.starts(0)
	d.ready(1)
	d.free(0, 1, 2, 3)
	d.roots(null())
	if e, did := d.Pick(7); !did || !same(e, api.Event{Actor: 1, What: api.StepAlloc, Cell: 0, Old: number(5), New: null()}) {
		t.Errorf("%+v, %t", e, did)
	}
	d.roots(ref(0), null())
	if n := d.Settle(100); n != 2 {
		t.Error(n)
	}
	d.over(1, number(5), api.OK)
	if want := []api.Cell{pair(api.White, number(5), null()), {}, {}, {}}; !slices.Equal(d.Heap(), want) {
		t.Error(d.Heap())
	}
	d.free(1, 2, 3)
	d.roots(number(5))
	if d.Steps() != 3 || d.Threads() != 1 {
		t.Error(d.Steps(), d.Threads())
	}
}

// TestExample2: a cycle of eight steps gives the pair back.
func TestExample2(t *testing.T) {
	d := newDesk(t, 4, 0, 0, consing())
	d.starts(0)
	d.Settle(100)
	d.collects()
	if e := d.Collect(); e != api.ErrBusy {
		t.Error(e)
	}
	d.ready(0)
	for _, want := range []api.Event{of(api.StepBegin, 1), of(api.StepScanThread, 1), checks(), frees(0, 0), keeps(1), keeps(2), keeps(3), of(api.StepFinish, 1)} {
		d.ready(0)
		d.goes(0, want)
	}
	if !slices.Equal(d.Heap(), make([]api.Cell, 4)) {
		t.Error(d.Heap())
	}
	d.free(0, 1, 2, 3)
	d.phase(api.PhaseIdle, 1)
	d.ready()
	if e, did := d.Pick(0); did || !same(e, api.Event{}) {
		t.Errorf("%+v, %t", e, did)
	}
	if d.Steps() != 11 {
		t.Error(d.Steps())
	}
}

// TestExample3: five threads on four cells: the fifth waits, and is given what the sweep finds first.
func TestExample3(t *testing.T) {
	d := newDesk(t, 4, 0, 0, consing())
	d.starts(0, 0, 0, 0, 0)
	for n := range 4 {
		d.goes(n+1, allocs(n, number(5), null()))
	}
	d.goes(5, api.Event{What: api.StepWait})
	d.waiting(api.Waiter{Thread: 5})
	d.ready(1, 2, 3, 4)
	d.free()
	d.skips(2, api.StepLoad, api.StepEnd)
	d.collects()
	d.ready(0, 1, 3, 4)
	d.goes(0, of(api.StepBegin, 1))
	d.goes(0, of(api.StepAsk, 1))
	d.ready(1, 3, 4)
	d.goes(1, acks(0))
	d.goes(1, loads(0, 0, number(5)))
	d.goes(0, of(api.StepScanThread, 2))
	d.goes(0, of(api.StepAsk, 3))
	d.goes(3, acks(2))
	d.goes(0, of(api.StepAsk, 4))
	d.goes(4, acks(3))
	d.goes(0, of(api.StepScanThread, 5))
	d.goes(0, scans(0))
	d.goes(0, scans(2))
	d.goes(0, scans(3))
	d.goes(0, checks())
	d.goes(0, keeps(0))
	d.waiting(api.Waiter{Thread: 5})
	d.goes(0, frees(1, 5))
	d.waiting()
	d.free()
	d.cell(1, api.Cell{})
	d.ready(0, 1, 3, 4, 5)
	d.goes(5, allocs(1, number(5), null()))
	d.cell(1, pair(api.White, number(5), null()))
	d.goes(0, keeps(2))
	d.goes(0, keeps(3))
	d.goes(0, of(api.StepFinish, 1))
	d.Settle(100)
	for n := range 5 {
		d.over(n+1, number(5), api.OK)
	}
}

// TestExample3ByTurns: the same, all by turns.
func TestExample3ByTurns(t *testing.T) {
	d := newDesk(t, 4, 0, 0, consing())
	d.starts(0, 0, 0, 0, 0)
	for n := range 5 {
		d.pick(n + 1)
	}
	d.collects()
	d.Settle(1000)
	d.phase(api.PhaseIdle, 1)
	for n := range 5 {
		d.over(n+1, number(5), api.OK)
	}
	d.waiting()
}

// TestExample4: all pairs stay: the cycle gives nothing back, and who waits is refused.
func TestExample4(t *testing.T) {
	d := newDesk(t, 4, 0, 0, keeping(5))
	d.starts(0, 0, 0, 0, 0)
	for n := range 4 {
		d.skips(n+1, api.StepAlloc)
	}
	d.skips(5, api.StepWait)
	d.collects()
	d.skips(0, api.StepBegin)
	for n := range 4 {
		d.goes(0, of(api.StepAsk, n+1))
		d.goes(n+1, acks(n))
	}
	d.goes(0, of(api.StepScanThread, 5))
	for n := range 4 {
		d.goes(0, scans(n))
	}
	d.goes(0, checks())
	for n := range 4 {
		d.goes(0, keeps(n))
	}
	d.waiting(api.Waiter{Thread: 5})
	d.ready(0, 1, 2, 3, 4)
	d.goes(0, of(api.StepFinish, 0))
	d.phase(api.PhaseIdle, 1)
	d.waiting()
	d.ready(1, 2, 3, 4, 5)
	d.going(1, 2, 3, 4, 5)
	d.goes(5, fails(api.ErrNoCells))
	d.over(5, 0, api.ErrNoCells)
	d.ready(1, 2, 3, 4)
}

// TestExample5: what is refused.
func TestExample5(t *testing.T) {
	d := newDesk(t, 4, 0, 0, consing())
	if n, e := d.Start(1); n != 0 || e != api.ErrArg {
		t.Error(n, e)
	}
	refusesNew(t, api.Config{Cells: 3}, coded(0, consing()), api.ErrArg)
	if x, e := d.Ended(9); x != (api.Ended{}) || e != api.ErrWorldThread {
		t.Error(x, e)
	}
}

// TestHidden (DOC.md, example 2): a thread that was not scanned has the only reference to a white cell, lays it into a black
// pair, and drops it: the cell is grey behind that store.
func TestHidden(t *testing.T) {
	d := newDesk(t, 4, 0, 1,
		proc(0, some(one(do(api.OpClosure, 1)), newPair(7), one(do(api.OpTail, 1)))...),
		proc(1, some(pause(), pairInto(0, 0), one(do(api.OpGlobal, 0), do(api.OpVar, 0), prim(api.PrimSetCar), do(api.OpPop), layInt(0), do(api.OpSetVar, 0), do(api.OpPop)), pause(), one(do(api.OpGlobal, 0), prim(api.PrimCar), prim(api.PrimCar), do(api.OpReturn)))...))
	d.starts(0)
	d.skips(1, api.StepAlloc, api.StepAlloc, api.StepLoad, api.StepLoad, api.StepAlloc, api.StepBreath)
	d.collects()
	d.goes(0, of(api.StepBegin, 1))
	d.goes(1, allocs(3, number(0), null()))
	d.goes(1, sets(0, nothing(), ref(3)))
	d.colours(api.White, api.White, api.White, api.Black)
	d.goes(1, finds(0, ref(3)))
	d.goes(1, loads(2, 0, ref(1)))
	d.roots(ref(3), ref(1), ref(2), ref(3))
	d.goes(1, stores(3, 0, number(0), ref(1), 1))
	d.colours(api.White, api.Grey, api.White, api.Black)
	d.goes(1, stores(2, 0, ref(1), number(0)))
	d.skips(1, api.StepBreath)
	d.goes(0, of(api.StepRoot, 0))
	d.goes(0, of(api.StepAsk, 1))
	d.goes(1, acks(2))
	d.goes(0, scans(1))
	d.goes(0, scans(2))
	d.goes(0, checks())
	d.goes(0, frees(0, 0))
	d.Settle(100)
	d.over(1, number(7), api.OK)
}
