package model_test

import (
	"slices"
	"testing"

	"dapple/api"
)

// TestRefuseAheadOfEachCell: a pair's, a box's, a closure's, one of a call's environment. That step is its end; nothing is made.
func TestRefuseAheadOfEachCell(t *testing.T) {
	for _, row := range []struct {
		l     []api.Instr
		ahead []api.What
	}{
		{newPair(1), nil},
		{one(layInt(1), prim(api.PrimBox)), nil},
		{one(do(api.OpClosure, 1)), nil},
		{one(do(api.OpClosure, 1), layInt(1), layInt(2), do(api.OpCall, 2)), []api.What{api.StepAlloc, api.StepLoad, api.StepLoad}},
		{one(do(api.OpClosure, 1), layInt(1), layInt(2), do(api.OpCall, 2)), []api.What{api.StepAlloc, api.StepLoad, api.StepLoad, api.StepAlloc}},
	} {
		d := newDesk(t, 0, 0, proc(0, some(row.l, ret())...), proc(2, do(api.OpVar, 0), do(api.OpReturn)))
		d.starts(0)
		d.skips(1, row.ahead...)
		d.refuses(1)
		was := d.m.Heap()
		d.going(1)
		d.goes(1, fails(api.ErrNoCells))
		d.heap(was...)
		d.over(1, 0, api.ErrNoCells)
		d.refusesNot(1)
		d.stands(1)
	}
}

// TestRefuseStays: till the thread asks for a cell, whatever its steps are till then.
func TestRefuseStays(t *testing.T) {
	d := newDesk(t, 1, 2, proc(0, some(one(layInt(1), prim(api.PrimBox), do(api.OpSetGlobal, 0), do(api.OpPop)), pause(),
		one(layInt(2), do(api.OpSetGlobal, 1), do(api.OpPop), do(api.OpGlobal, 1), do(api.OpPop),
			do(api.OpGlobal, 0), layInt(3), prim(api.PrimSetBox), do(api.OpPop), do(api.OpGlobal, 0), prim(api.PrimUnbox), do(api.OpPop),
			do(api.OpGlobal, 0), layInt(3), layInt(4), prim(api.PrimCas), do(api.OpPop), do(api.OpGlobal, 0), layInt(5), prim(api.PrimAdd), do(api.OpPop)),
		take(0), give(0), take(0), one(layInt(2), do(api.OpJoin), do(api.OpPop)), newPair(6), ret())...),
		proc(0, some(take(0), pause(), give(0), pause(), newPair(7), ret())...))
	d.starts(0, 1)
	d.skips(1, api.StepAlloc)
	d.refuses(1)
	d.goes(1, sets(0, nothing(), ref(0)))
	d.skips(1, api.StepBreath, api.StepSetGlobal, api.StepGlobal, api.StepGlobal, api.StepStore, api.StepGlobal, api.StepLoad, api.StepGlobal, api.StepCas, api.StepGlobal, api.StepAdd, api.StepLock, api.StepUnlock)
	d.skips(2, api.StepLock)
	d.skips(1, api.StepWaitLock)
	d.stands(1)
	d.skips(2, api.StepBreath, api.StepUnlock)
	d.skips(1, api.StepWaitJoin)
	d.stands(1)
	d.skips(2, api.StepBreath)
	// Another thread gets its cell, whatever is refused to the first one.
	d.goes(2, allocs(1, number(7), null()))
	d.goes(2, ends(ref(1)))
	d.goes(1, joins(2, ref(1)))
	d.going(1)
	d.goes(1, fails(api.ErrNoCells))
	d.over(1, 0, api.ErrNoCells)
	d.heap(box(number(9)), pair(number(7), null()))
}

// TestRefuseTwice is as once: one cell is not got, and there is no second one.
func TestRefuseTwice(t *testing.T) {
	d := newDesk(t, 0, 0, proc(0, some(pause(), newPair(1), ret())...))
	d.starts(0, 0)
	d.refuses(1, 1, 1)
	d.goes(1, breath())
	d.refuses(1)
	d.goes(1, fails(api.ErrNoCells))
	d.refusesNot(1, 1)
	d.goes(2, breath())
	d.goes(2, allocs(0, number(1), null()))
	d.refuses(2, 2)
	d.goes(2, ends(ref(0)))
	d.refusesNot(1, 2, 3, 0, -1, 9)
}

// TestRefuseOfOneThatHasItsCell: nothing comes of it, if it asks for no cell any more; the next cell, if it does.
func TestRefuseOfOneThatHasItsCell(t *testing.T) {
	d := newDesk(t, 0, 0, consing(), proc(0, some(newPair(1), one(do(api.OpPop)), newPair(2), ret())...))
	d.starts(0, 1)
	d.goes(1, allocs(0, number(5), null()))
	d.goes(2, allocs(1, number(1), null()))
	d.refuses(1, 2)
	d.goes(1, loads(0, 0, number(5)))
	d.goes(1, ends(number(5)))
	d.goes(2, fails(api.ErrNoCells))
	d.heap(pair(number(5), null()), pair(number(1), null()))
}

// TestRefuseOfOneThatWaits: for a lock, for an end; it is heard of when it goes on.
func TestRefuseOfOneThatWaits(t *testing.T) {
	d := newDesk(t, 1, 0, proc(0, some(take(0), pause(), give(0), newPair(1), ret())...), proc(0, some(join(1), ret())...), proc(0, some(join(2), ret())...))
	d.starts(0, 0, 1, 2)
	d.skips(1, api.StepLock)
	d.skips(2, api.StepWaitLock)
	d.skips(3, api.StepWaitJoin)
	d.skips(4, api.StepWaitJoin)
	d.refuses(2, 3, 4)
	d.stands(2, 3, 4)
	d.skips(1, api.StepBreath, api.StepUnlock)
	d.goes(1, allocs(0, number(1), null()))
	d.skips(2, api.StepBreath, api.StepUnlock)
	d.goes(2, fails(api.ErrNoCells))
	d.goes(1, ends(ref(0)))
	d.goes(3, joins(1, ref(0)))
	d.goes(3, ends(ref(0)))
	d.goes(4, api.Event{What: api.StepJoin, Other: 2, Err: api.ErrNoCells})
	d.over(4, 0, api.ErrNoCells)
}

// TestWhatIsWrongComesFirst: what stands ahead of asking for a cell is told, and the refusal is not.
func TestWhatIsWrongComesFirst(t *testing.T) {
	d := newDesk(t, 0, 0, proc(0, layNil(), prim(api.PrimCar), do(api.OpClosure, 0), do(api.OpPop), do(api.OpReturn)))
	d.starts(0)
	d.refuses(1)
	d.goes(1, fails(api.ErrWordKind))
	// So many words below those of a procedure that pushes 254 of its own, and then a closure.
	for below, want := range []api.Errno{api.ErrNoCells, api.ErrNoCells, api.ErrVMStack} {
		first := some(slices.Repeat(one(layNil()), below), one(do(api.OpClosure, 1), do(api.OpCall, 0), do(api.OpReturn)))
		d := newDesk(t, 0, 0, proc(0, first...), proc(0, append(slices.Repeat(one(layNil()), 254), do(api.OpClosure, 1), do(api.OpReturn))...))
		d.starts(0)
		d.skips(1, api.StepAlloc, api.StepLoad, api.StepLoad)
		d.refuses(1)
		d.goes(1, fails(want))
		d.over(1, 0, want)
	}
}

// TestSpawnedIsNotRefused: what is refused to one is not to those that it begins, nor to who has begun it.
func TestSpawnedIsNotRefused(t *testing.T) {
	d := newDesk(t, 0, 0, proc(0, some(one(do(api.OpClosure, 1), do(api.OpSpawn), do(api.OpPop)), newPair(1), ret())...), proc(0, some(newPair(2), ret())...))
	d.starts(0)
	d.skips(1, api.StepAlloc)
	d.refuses(1)
	d.skips(1, api.StepLoad, api.StepLoad, api.StepSpawn)
	d.goes(2, allocs(1, number(2), null()))
	d.goes(1, fails(api.ErrNoCells))
	d.goes(2, ends(ref(1)))
}
