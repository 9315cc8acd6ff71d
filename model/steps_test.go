package model_test

import (
	"math"
	"slices"
	"testing"

	"dapple/api"
)

// alone is a desk with one thread, which goes through these instructions, with two locks and two globals.
func alone(t *testing.T, l ...[]api.Instr) desk {
	t.Helper()
	d := newDesk(t, 2, 2, proc(0, some(l...)...), consing(), turning())
	d.starts(0)
	return d
}

// TestPairsAndBoxes: the steps on cells, each with all its fields.
func TestPairsAndBoxes(t *testing.T) {
	d := alone(t, one(do(api.OpClosure, 1), layInt(1), layInt(2), prim(api.PrimCons), do(api.OpSetGlobal, 0), do(api.OpPop), do(api.OpGlobal, 0), prim(api.PrimCar), do(api.OpPop), do(api.OpGlobal, 0), prim(api.PrimCdr), do(api.OpPop),
		do(api.OpGlobal, 0), layInt(3), prim(api.PrimSetCar), do(api.OpPop), do(api.OpGlobal, 0), layInt(4), prim(api.PrimSetCdr), do(api.OpPop),
		layInt(5), prim(api.PrimBox), do(api.OpSetGlobal, 1), do(api.OpPop), do(api.OpGlobal, 1), prim(api.PrimUnbox), do(api.OpPop), do(api.OpGlobal, 1), layInt(6), prim(api.PrimSetBox), do(api.OpPop),
		do(api.OpGlobal, 1), layInt(5), layInt(7), prim(api.PrimCas), do(api.OpPop), do(api.OpGlobal, 1), layInt(6), layInt(7), prim(api.PrimCas), do(api.OpPop),
		do(api.OpGlobal, 1), layInt(8), prim(api.PrimAdd)), ret())
	d.goes(1, allocs(0, number(1), null()))
	d.heap(closure(1, null()))
	d.goes(1, allocs(1, number(1), number(2)))
	d.heap(closure(1, null()), pair(number(1), number(2)))
	d.globals(nothing(), nothing())
	d.goes(1, sets(0, nothing(), ref(1)))
	d.globals(ref(1), nothing())
	d.goes(1, finds(0, ref(1)))
	d.goes(1, loads(1, 0, number(1)))
	d.goes(1, finds(0, ref(1)))
	d.goes(1, loads(1, 1, number(2)))
	d.goes(1, finds(0, ref(1)))
	d.goes(1, stores(1, 0, number(1), number(3)))
	d.heap(closure(1, null()), pair(number(3), number(2)))
	d.goes(1, finds(0, ref(1)))
	d.goes(1, stores(1, 1, number(2), number(4)))
	d.heap(closure(1, null()), pair(number(3), number(4)))
	d.goes(1, allocs(2, number(5), null()))
	d.heap(closure(1, null()), pair(number(3), number(4)), box(number(5)))
	d.goes(1, sets(1, nothing(), ref(2)))
	d.goes(1, finds(1, ref(2)))
	d.goes(1, loads(2, 0, number(5)))
	d.goes(1, finds(1, ref(2)))
	d.goes(1, stores(2, 0, number(5), number(6)))
	d.goes(1, finds(1, ref(2)))
	d.changesNothing(func() {
		d.goes(1, api.Event{What: api.StepCas, Cell: 2, Old: number(6), New: number(6)})
	})
	d.goes(1, finds(1, ref(2)))
	d.goes(1, api.Event{What: api.StepCas, Cell: 2, Old: number(6), New: number(7), Yes: true})
	d.heap(closure(1, null()), pair(number(3), number(4)), box(number(7)))
	d.goes(1, finds(1, ref(2)))
	d.goes(1, api.Event{What: api.StepAdd, Cell: 2, Old: number(7), New: number(15)})
	d.heap(closure(1, null()), pair(number(3), number(4)), box(number(15)))
	d.going(1)
	d.goes(1, ends(number(15)))
	d.over(1, number(15), api.OK)
	d.globals(ref(1), ref(2))
}

// TestCasOfReferences: just the same word is exchanged, a reference or not.
func TestCasOfReferences(t *testing.T) {
	d := newDesk(t, 0, 1, proc(0, some(newPair(1), one(prim(api.PrimBox), do(api.OpSetGlobal, 0), do(api.OpPop), do(api.OpGlobal, 0)), newPair(1), one(layInt(3), prim(api.PrimCas), do(api.OpPop),
		do(api.OpGlobal, 0), do(api.OpGlobal, 0), prim(api.PrimUnbox), do(api.OpGlobal, 0), prim(api.PrimCas)), ret())...))
	d.starts(0)
	d.skips(1, api.StepAlloc, api.StepAlloc, api.StepSetGlobal, api.StepGlobal, api.StepAlloc)
	d.goes(1, api.Event{What: api.StepCas, Cell: 1, Old: ref(0), New: ref(0)})
	d.skips(1, api.StepGlobal, api.StepGlobal, api.StepLoad, api.StepGlobal)
	d.goes(1, api.Event{What: api.StepCas, Cell: 1, Old: ref(0), New: ref(1), Yes: true})
	d.heap(pair(number(1), null()), box(ref(1)), pair(number(1), null()))
	d.goes(1, ends(sole(api.TagTrue)))
}

// TestAddFails: what can't be added to ends the thread with that step, and stays.
func TestAddFails(t *testing.T) {
	for _, row := range []struct {
		is, n api.Word
		e     api.Errno
	}{{null(), number(1), api.ErrWordKind}, {number(1), null(), api.ErrWordKind}, {number(1<<59 - 1), number(1), api.ErrWordOver}} {
		d := alone(t, one(lay(row.is), prim(api.PrimBox), do(api.OpSetGlobal, 0), do(api.OpPop), do(api.OpGlobal, 0), lay(row.n), prim(api.PrimAdd)), ret())
		d.skips(1, api.StepAlloc, api.StepSetGlobal, api.StepGlobal)
		d.goes(1, api.Event{What: api.StepAdd, Err: row.e})
		d.over(1, 0, row.e)
		d.stands(1)
		d.heap(box(row.is))
		d.globals(ref(0), nothing())
	}
}

// TestErrorsEndAtOnce: a step that is an error's ends its thread with that step: there is no step more.
func TestErrorsEndAtOnce(t *testing.T) {
	for _, row := range []struct {
		l    []api.Instr
		want api.Event
	}{
		{one(do(api.OpGlobal, 1)), api.Event{What: api.StepGlobal, Other: 1, Err: api.ErrVMUnset}},
		{one(do(api.OpVar, 0)), fails(api.ErrVMUnset)},
		{one(layInt(1), prim(api.PrimCar)), fails(api.ErrWordKind)},
		{one(layInt(1), layInt(0), prim(api.PrimQuotient)), fails(api.ErrWordZero)},
		{one(layInt(1), prim(api.PrimError)), fails(api.ErrVMRaised)},
		{one(layInt(1), do(api.OpCall, 0)), fails(api.ErrVMCall)},
		{one(layInt(1), do(api.OpSpawn)), fails(api.ErrVMCall)},
		{one(layNil(), do(api.OpJoin)), fails(api.ErrWordKind)},
		{join(1), api.Event{What: api.StepJoin, Other: 1, Err: api.ErrLocksSelf}},
		{join(0), api.Event{What: api.StepJoin, Err: api.ErrLocksNone}},
		{join(3), api.Event{What: api.StepJoin, Other: 3, Err: api.ErrLocksNone}},
		{join(-1), api.Event{What: api.StepJoin, Other: -1, Err: api.ErrLocksNone}},
		{join(1<<59 - 1), api.Event{What: api.StepJoin, Other: 1<<59 - 1, Err: api.ErrLocksNone}},
		{one(layInt(-1), do(api.OpLock)), api.Event{What: api.StepLock, Other: -1, Err: api.ErrLocksNone}},
		{one(layInt(2), do(api.OpLock)), api.Event{What: api.StepLock, Other: 2, Err: api.ErrLocksNone}},
		{one(lay(number(1<<59-1)), do(api.OpLock)), api.Event{What: api.StepLock, Other: 1<<59 - 1, Err: api.ErrLocksNone}},
		{one(layNil(), do(api.OpLock)), fails(api.ErrWordKind)},
		{one(layInt(-1), do(api.OpUnlock)), api.Event{What: api.StepUnlock, Other: -1, Err: api.ErrLocksNone}},
		{one(layInt(2), do(api.OpUnlock)), api.Event{What: api.StepUnlock, Other: 2, Err: api.ErrLocksNone}},
		{one(layInt(1), do(api.OpUnlock)), api.Event{What: api.StepUnlock, Other: 1, Err: api.ErrLocksNot}},
		{one(layNil(), do(api.OpUnlock)), fails(api.ErrWordKind)},
	} {
		d := alone(t, row.l, ret())
		d.starts(2)
		d.going(1)
		d.goes(1, row.want)
		d.over(1, 0, row.want.Err)
		d.stands(1)
		d.refusesNot(1)
		d.goes(2, breath())
	}
}

// TestBreaths: 1000 instructions without an access, or an OpYield.
func TestBreaths(t *testing.T) {
	d := newDesk(t, 0, 0, proc(0, do(api.OpJump, 0)), turning(), proc(0, append(slices.Repeat(one(layNil(), do(api.OpPop)), 499), layNil(), layNil(), do(api.OpPop), do(api.OpReturn))...))
	d.starts(0, 1, 2)
	for range 3 {
		d.goes(1, breath())
		d.goes(2, breath())
	}
	d.goes(3, breath())
	d.goes(3, ends(null()))
}

// TestCalls: a call's environment is made of cells, each a step of its own; variables are loaded from there, and stored there.
func TestCalls(t *testing.T) {
	d := newDesk(t, 0, 0,
		proc(0, do(api.OpClosure, 1), layInt(7), layInt(8), do(api.OpCall, 2), do(api.OpReturn)),
		proc(2, layInt(9), do(api.OpSetVar, 1), do(api.OpPop), do(api.OpVar, 0), do(api.OpReturn)))
	d.starts(0)
	d.goes(1, allocs(0, number(1), null()))
	d.goes(1, loads(0, 0, number(1)))
	d.goes(1, loads(0, 1, null()))
	d.goes(1, allocs(1, number(7), null()))
	d.goes(1, allocs(2, number(8), ref(1)))
	d.goes(1, loads(2, 1, ref(1)))
	d.goes(1, stores(1, 0, number(7), number(9)))
	d.goes(1, loads(2, 0, number(8)))
	d.goes(1, ends(number(8)))
	d.heap(closure(1, null()), pair(number(9), null()), pair(number(8), ref(1)))
}

// TestSpawnAndJoin: a thread that another one begins: its number, its environment, its result.
func TestSpawnAndJoin(t *testing.T) {
	d := newDesk(t, 0, 0,
		proc(0, some(one(do(api.OpClosure, 1)), newPair(7), one(do(api.OpCall, 1)), ret())...),
		proc(1, do(api.OpClosure, 2), do(api.OpSpawn), do(api.OpJoin), do(api.OpReturn)),
		proc(0, do(api.OpVar, 0), do(api.OpYield), do(api.OpPop), do(api.OpReturn)))
	d.starts(0)
	d.skips(1, api.StepAlloc, api.StepAlloc, api.StepLoad, api.StepLoad, api.StepAlloc)
	d.goes(1, allocs(3, number(2), ref(2)))
	d.goes(1, loads(3, 0, number(2)))
	d.goes(1, loads(3, 1, ref(2)))
	d.stands(2)
	d.refusesNot(2)
	d.goes(1, api.Event{What: api.StepSpawn, Other: 2, New: ref(3)})
	d.going(1, 2)
	d.goes(1, of(api.StepWaitJoin, 2))
	d.stands(1)
	d.goes(2, loads(2, 0, ref(1)))
	d.goes(2, breath())
	d.stands(1)
	d.going(1, 2)
	d.goes(2, ends(ref(1)))
	d.over(2, ref(1), api.OK)
	d.going(1)
	d.goes(1, joins(2, ref(1)))
	d.goes(1, ends(ref(1)))
	d.over(1, ref(1), api.OK)
}

// TestSpawnedIsNext: threads that others begin, and those that are started, are numbered in one row.
func TestSpawnedIsNext(t *testing.T) {
	d := newDesk(t, 0, 0, proc(0, do(api.OpClosure, 1), do(api.OpSpawn), do(api.OpReturn)), turning())
	d.starts(0, 0)
	d.skips(2, api.StepAlloc, api.StepLoad, api.StepLoad)
	d.goes(2, api.Event{What: api.StepSpawn, Other: 3, New: ref(0)})
	d.starts(1)
	d.skips(1, api.StepAlloc, api.StepLoad, api.StepLoad)
	d.goes(1, api.Event{What: api.StepSpawn, Other: 5, New: ref(1)})
	d.goes(5, breath())
	d.goes(1, ends(number(5)))
	d.goes(2, ends(number(3)))
}

// TestSpawnOfANinth: it ends by that.
func TestSpawnOfANinth(t *testing.T) {
	d := newDesk(t, 0, 0, proc(0, do(api.OpClosure, 1), do(api.OpSpawn), do(api.OpPop), do(api.OpJump, 0)), turning())
	d.starts(0, 1, 1, 1, 1, 1, 1)
	d.skips(1, api.StepAlloc, api.StepLoad, api.StepLoad)
	d.goes(1, api.Event{What: api.StepSpawn, Other: 8, New: ref(0)})
	d.skips(1, api.StepAlloc, api.StepLoad, api.StepLoad)
	d.goes(1, api.Event{What: api.StepSpawn, Err: api.ErrLocksMuch})
	d.over(1, 0, api.ErrLocksMuch)
	d.stands(1, 9)
	d.goes(8, breath())
}

// TestJoinOfOneThatHasEnded: its result, or its error, at once; as often as one likes.
func TestJoinOfOneThatHasEnded(t *testing.T) {
	d := newDesk(t, 0, 0, consing(), proc(0, layNil(), prim(api.PrimCar), do(api.OpReturn)),
		proc(0, some(join(1), one(do(api.OpPop)), join(1), one(do(api.OpPop)), join(2), ret())...), proc(0, some(join(3), ret())...))
	d.starts(0, 1)
	d.skips(1, api.StepAlloc, api.StepLoad, api.StepEnd)
	d.goes(2, fails(api.ErrWordKind))
	d.over(2, 0, api.ErrWordKind)
	d.starts(2, 3)
	d.goes(3, joins(1, number(5)))
	d.goes(3, joins(1, number(5)))
	d.goes(3, api.Event{What: api.StepJoin, Other: 2, Err: api.ErrWordKind})
	d.over(3, 0, api.ErrWordKind)
	d.goes(4, api.Event{What: api.StepJoin, Other: 3, Err: api.ErrWordKind})
	d.over(4, 0, api.ErrWordKind)
}

// TestEndedIsOfThreads: of numbers that there are.
func TestEndedIsOfThreads(t *testing.T) {
	d := newDesk(t, 0, 0, consing(), turning(), proc(0, layNil(), prim(api.PrimCar), do(api.OpReturn)))
	d.starts(1, 0, 2)
	d.skips(2, api.StepAlloc, api.StepLoad, api.StepEnd)
	d.goes(3, fails(api.ErrWordKind))
	d.going(1)
	d.over(2, number(5), api.OK)
	d.over(3, 0, api.ErrWordKind)
	for _, n := range []int{math.MinInt, -1, 0, 4, 5, 8, 9, math.MaxInt} {
		if x, e := d.m.Ended(n); x != (api.Ended{}) || e != api.ErrLocksNone {
			t.Error(n, x, e)
		}
		d.stands(n)
		d.refusesNot(n)
	}
}
