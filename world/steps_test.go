package world_test

import (
	"math"
	"slices"
	"testing"

	"dapple/api"
)

// alone is a desk with one thread, which goes through these instructions, with two locks and two globals.
func alone(t *testing.T, l ...[]api.Instr) desk {
	t.Helper()
	d := newDesk(t, 8, 2, 2, proc(0, some(l...)...), consing(), turning())
	d.starts(0)
	return d
}

// ret gives back what is on the stack.
func ret() []api.Instr { return one(do(api.OpReturn)) }

// TestPairsAndBoxes: the steps on cells, each with all its fields.
func TestPairsAndBoxes(t *testing.T) {
	d := alone(t, one(do(api.OpClosure, 1), layInt(1), layInt(2), prim(api.PrimCons), do(api.OpSetGlobal, 0), do(api.OpPop), do(api.OpGlobal, 0), prim(api.PrimCar), do(api.OpPop), do(api.OpGlobal, 0), prim(api.PrimCdr), do(api.OpPop),
		do(api.OpGlobal, 0), layInt(3), prim(api.PrimSetCar), do(api.OpPop), do(api.OpGlobal, 0), layInt(4), prim(api.PrimSetCdr), do(api.OpPop),
		layInt(5), prim(api.PrimBox), do(api.OpSetGlobal, 1), do(api.OpPop), do(api.OpGlobal, 1), prim(api.PrimUnbox), do(api.OpPop), do(api.OpGlobal, 1), layInt(6), prim(api.PrimSetBox), do(api.OpPop),
		do(api.OpGlobal, 1), layInt(5), layInt(7), prim(api.PrimCas), do(api.OpPop), do(api.OpGlobal, 1), layInt(6), layInt(7), prim(api.PrimCas), do(api.OpPop),
		do(api.OpGlobal, 1), layInt(8), prim(api.PrimAdd)), ret())
	d.goes(1, allocs(0, number(1), null()))
	d.cell(0, api.Cell{Kind: api.KindClosure, A: number(1), B: null()})
	d.goes(1, allocs(1, number(1), number(2)))
	d.goes(1, sets(0, nothing(), ref(1)))
	d.goes(1, finds(0, ref(1)))
	d.goes(1, loads(1, 0, number(1)))
	d.goes(1, finds(0, ref(1)))
	d.goes(1, loads(1, 1, number(2)))
	d.goes(1, finds(0, ref(1)))
	d.goes(1, stores(1, 0, number(1), number(3)))
	d.goes(1, finds(0, ref(1)))
	d.goes(1, stores(1, 1, number(2), number(4)))
	d.cell(1, pair(api.White, number(3), number(4)))
	d.goes(1, allocs(2, number(5), null()))
	d.cell(2, box(api.White, number(5)))
	d.goes(1, sets(1, nothing(), ref(2)))
	d.goes(1, finds(1, ref(2)))
	d.goes(1, loads(2, 0, number(5)))
	d.goes(1, finds(1, ref(2)))
	d.goes(1, stores(2, 0, number(5), number(6)))
	d.goes(1, finds(1, ref(2)))
	d.goes(1, api.Event{What: api.StepCas, Cell: 2, Old: number(6), New: number(6)})
	d.goes(1, finds(1, ref(2)))
	d.goes(1, api.Event{What: api.StepCas, Cell: 2, Old: number(6), New: number(7), Yes: true})
	d.goes(1, finds(1, ref(2)))
	d.goes(1, api.Event{What: api.StepAdd, Cell: 2, Old: number(7), New: number(15)})
	d.cell(2, box(api.White, number(15)))
	d.free(3, 4, 5, 6, 7)
	d.goes(1, ends(number(15)))
	d.globals(ref(1), ref(2))
}

// TestAddFails: what can't be added to ends the thread with that step, and stays.
func TestAddFails(t *testing.T) {
	for _, row := range []struct {
		is, n api.Word
		e     api.Errno
	}{{null(), number(1), api.ErrWordKind}, {number(1), null(), api.ErrWordKind}, {number(1<<59 - 1), number(1), api.ErrWordOver}} {
		d := alone(t, one(lay(row.is), prim(api.PrimBox), do(api.OpSetGlobal, 0), do(api.OpPop), do(api.OpGlobal, 0), lay(row.n), prim(api.PrimAdd)), ret())
		d.skips(1, api.StepAlloc, api.StepSetGlobal, api.StepGlobal)
		d.goes(1, api.Event{What: api.StepAdd, Err: row.e})
		d.over(1, 0, row.e)
		d.ready()
		d.cell(0, box(api.White, row.is))
		d.roots(ref(0), nothing())
	}
}

// TestErrorsEndAtOnce: a step that is an error's ends its thread with that step: there is no step more.
func TestErrorsEndAtOnce(t *testing.T) {
	for _, row := range []struct {
		l    []api.Instr
		want api.Event
	}{
		{one(do(api.OpGlobal, 1)), api.Event{What: api.StepGlobal, Other: 1, Err: api.ErrVMUnset}},
		{one(do(api.OpVar, 0)), fails(api.ErrVMUnset)},
		{one(layInt(1), prim(api.PrimCar)), fails(api.ErrWordKind)},
		{one(layInt(1), layInt(0), prim(api.PrimQuotient)), fails(api.ErrWordZero)},
		{one(layInt(1), prim(api.PrimError)), fails(api.ErrVMRaised)},
		{one(layInt(1), do(api.OpCall, 0)), fails(api.ErrVMCall)},
		{one(layInt(1), do(api.OpSpawn)), fails(api.ErrVMCall)},
		{one(layNil(), do(api.OpJoin)), fails(api.ErrWordKind)},
		{one(layInt(1), do(api.OpJoin)), api.Event{What: api.StepJoin, Other: 1, Err: api.ErrLocksSelf}},
		{one(layInt(0), do(api.OpJoin)), api.Event{What: api.StepJoin, Err: api.ErrLocksNone}},
		{one(layInt(3), do(api.OpJoin)), api.Event{What: api.StepJoin, Other: 3, Err: api.ErrLocksNone}},
		{one(layInt(-1), do(api.OpJoin)), api.Event{What: api.StepJoin, Other: -1, Err: api.ErrLocksNone}},
		{one(lay(number(1<<59-1)), do(api.OpJoin)), api.Event{What: api.StepJoin, Other: 1<<59 - 1, Err: api.ErrLocksNone}},
		{one(layInt(-1), do(api.OpLock)), api.Event{What: api.StepLock, Other: -1, Err: api.ErrLocksNone}},
		{one(layInt(2), do(api.OpLock)), api.Event{What: api.StepLock, Other: 2, Err: api.ErrLocksNone}},
		{one(lay(number(1<<59-1)), do(api.OpLock)), api.Event{What: api.StepLock, Other: 1<<59 - 1, Err: api.ErrLocksNone}},
		{one(layNil(), do(api.OpLock)), fails(api.ErrWordKind)},
		{one(layInt(-1), do(api.OpUnlock)), api.Event{What: api.StepUnlock, Other: -1, Err: api.ErrLocksNone}},
		{one(layInt(2), do(api.OpUnlock)), api.Event{What: api.StepUnlock, Other: 2, Err: api.ErrLocksNone}},
		{one(layInt(1), do(api.OpUnlock)), api.Event{What: api.StepUnlock, Other: 1, Err: api.ErrLocksNot}},
		{one(layNil(), do(api.OpUnlock)), fails(api.ErrWordKind)},
	} {
		d := alone(t, row.l, ret())
		d.starts(2)
		d.going(1)
		d.goes(1, row.want)
		d.over(1, 0, row.want.Err)
		d.ready(2)
		if v := d.View(); !v.Lanes[0].Ended || len(v.Lanes[0].Roots) != 0 {
			t.Errorf("%+v", v.Lanes[0])
		}
	}
}

// TestBreaths: 1000 instructions without an access, or an OpYield.
func TestBreaths(t *testing.T) {
	d := newDesk(t, 4, 0, 0, proc(0, do(api.OpJump, 0)), turning(), proc(0, append(slices.Repeat(one(layNil(), do(api.OpPop)), 499), layNil(), layNil(), do(api.OpPop), do(api.OpReturn))...))
	d.starts(0, 1, 2)
	for range 3 {
		d.goes(1, breath())
		d.goes(2, breath())
	}
	d.goes(3, breath())
	d.goes(3, ends(null()))
}

// TestSpawnAndJoin: a thread that another one begins: its number, its environment, its result.
func TestSpawnAndJoin(t *testing.T) {
	d := newDesk(t, 8, 0, 0,
		proc(0, some(one(do(api.OpClosure, 1)), newPair(7), one(do(api.OpCall, 1)), ret())...),
		proc(1, do(api.OpClosure, 2), do(api.OpSpawn), do(api.OpJoin), do(api.OpReturn)),
		proc(0, do(api.OpVar, 0), do(api.OpYield), do(api.OpPop), do(api.OpReturn)))
	d.starts(0)
	d.skips(1, api.StepAlloc, api.StepAlloc, api.StepLoad, api.StepLoad, api.StepAlloc)
	d.goes(1, allocs(3, number(2), ref(2)))
	d.goes(1, loads(3, 0, number(2)))
	d.goes(1, loads(3, 1, ref(2)))
	d.ready(1)
	d.goes(1, api.Event{What: api.StepSpawn, Other: 2, New: ref(3)})
	d.ready(1, 2)
	if d.Threads() != 2 {
		t.Error(d.Threads())
	}
	d.roots(number(2), null(), ref(2), ref(2))
	d.goes(1, of(api.StepWaitJoin, 2))
	d.ready(2)
	d.goes(2, loads(2, 0, ref(1)))
	d.goes(2, breath())
	d.ready(2)
	d.going(1, 2)
	d.goes(2, ends(ref(1)))
	d.over(2, ref(1), api.OK)
	d.ready(1)
	d.goes(1, api.Event{What: api.StepJoin, Other: 2, New: ref(1)})
	d.roots(ref(1), null(), ref(2), ref(1))
	d.goes(1, ends(ref(1)))
	d.roots(ref(1), ref(1))
}

// TestJoinOfOneThatHasEnded: its result, or its error, at once; as often as one likes.
func TestJoinOfOneThatHasEnded(t *testing.T) {
	join := func(n int64) []api.Instr { return one(layInt(n), do(api.OpJoin)) }
	d := newDesk(t, 4, 0, 0, consing(), proc(0, layNil(), prim(api.PrimCar), do(api.OpReturn)),
		proc(0, some(join(1), one(do(api.OpPop)), join(1), one(do(api.OpPop)), join(2), ret())...), proc(0, some(join(3), ret())...))
	d.starts(0, 1)
	d.Settle(10)
	d.over(2, 0, api.ErrWordKind)
	d.starts(2, 3)
	d.goes(3, api.Event{What: api.StepJoin, Other: 1, New: number(5)})
	d.goes(3, api.Event{What: api.StepJoin, Other: 1, New: number(5)})
	d.goes(3, api.Event{What: api.StepJoin, Other: 2, Err: api.ErrWordKind})
	d.over(3, 0, api.ErrWordKind)
	d.ready(4)
	d.goes(4, api.Event{What: api.StepJoin, Other: 3, Err: api.ErrWordKind})
	d.over(4, 0, api.ErrWordKind)
}

// TestSpawnOfANinth: it ends by that.
func TestSpawnOfANinth(t *testing.T) {
	d := newDesk(t, 8, 0, 0, proc(0, do(api.OpClosure, 1), do(api.OpSpawn), do(api.OpReturn)), turning())
	d.starts(0, 1, 1, 1, 1, 1, 1, 1)
	d.skips(1, api.StepAlloc, api.StepLoad, api.StepLoad)
	d.goes(1, api.Event{What: api.StepSpawn, Err: api.ErrLocksMuch})
	d.over(1, 0, api.ErrLocksMuch)
	d.ready(2, 3, 4, 5, 6, 7, 8)
	if d.Threads() != 8 {
		t.Error(d.Threads())
	}
}

// TestSpawnIsScannedAsItsParent: while roots are laid; and who is not lays its own roots.
func TestSpawnIsScannedAsItsParent(t *testing.T) {
	for _, parentIs := range []bool{false, true} {
		d := newDesk(t, 8, 0, 0, proc(0, some(one(do(api.OpClosure, 1), do(api.OpSpawn), do(api.OpPop)), pause(), one(do(api.OpJump, 3)))...), turning())
		d.starts(0, 1)
		d.skips(1, api.StepAlloc, api.StepLoad, api.StepLoad)
		d.collects()
		d.skips(0, api.StepBegin)
		if parentIs {
			d.skips(0, api.StepAsk)
			d.skips(1, api.StepAck)
		}
		d.goes(1, api.Event{What: api.StepSpawn, Other: 3, New: ref(0)})
		if v := d.View(); v.Lanes[0].Scanned != parentIs || v.Lanes[2].Scanned != parentIs {
			t.Errorf("%+v", v.Lanes)
		}
		if !parentIs {
			d.goes(0, of(api.StepAsk, 1))
			d.skips(1, api.StepAck)
		}
		d.goes(0, of(api.StepAsk, 2))
		d.skips(2, api.StepAck)
		if !parentIs {
			d.goes(0, of(api.StepAsk, 3))
			d.skips(3, api.StepAck)
		}
		d.till(0, api.StepCheck)
	}
}

// TestLocks: taken, held, handed on to who waits longest.
func TestLocks(t *testing.T) {
	user := proc(0, layInt(1), do(api.OpLock), do(api.OpPop), do(api.OpYield), do(api.OpPop), layInt(1), do(api.OpUnlock), do(api.OpReturn))
	d := newDesk(t, 4, 2, 0, user)
	d.starts(0, 0, 0, 0)
	d.goes(3, of(api.StepLock, 1))
	d.goes(4, of(api.StepWaitLock, 1))
	d.ready(1, 2, 3)
	d.goes(1, of(api.StepWaitLock, 1))
	d.goes(3, breath())
	d.goes(2, of(api.StepWaitLock, 1))
	d.ready(3)
	d.goes(3, of(api.StepUnlock, 1))
	d.ready(3, 4)
	d.goes(3, ends(nothing()))
	d.goes(4, breath())
	d.ready(4)
	d.goes(4, of(api.StepUnlock, 1))
	d.ready(1, 4)
	d.goes(1, breath())
	d.goes(1, of(api.StepUnlock, 1))
	d.ready(1, 2, 4)
	d.goes(2, breath())
	d.goes(2, of(api.StepUnlock, 1))
	d.Settle(10)
	d.ready()
}

// TestLockTwice: who holds it ends by that, and hands it on.
func TestLockTwice(t *testing.T) {
	d := newDesk(t, 4, 1, 0, proc(0, layInt(0), do(api.OpLock), do(api.OpPop), layInt(0), do(api.OpLock), do(api.OpReturn)))
	d.starts(0, 0)
	d.goes(1, of(api.StepLock, 0))
	d.goes(2, of(api.StepWaitLock, 0))
	d.ready(1)
	d.goes(1, api.Event{What: api.StepLock, Err: api.ErrLocksTwice})
	d.over(1, 0, api.ErrLocksTwice)
	d.ready(2)
	d.goes(2, api.Event{What: api.StepLock, Err: api.ErrLocksTwice})
}

// TestEndGivesLocksOn: the lowest number first; and who waits for its end is woken.
func TestEndGivesLocksOn(t *testing.T) {
	take := func(n int64) []api.Instr { return one(layInt(n), do(api.OpLock), do(api.OpPop)) }
	for _, last := range []api.Instr{layNil(), do(api.OpGlobal, 0)} { // an end with a word, an end by an error
		d := newDesk(t, 4, 3, 1,
			proc(0, some(take(2), take(0), one(last), ret())...),
			proc(0, some(take(0), take(2), one(layInt(9)), ret())...),
			proc(0, some(take(2), take(0), one(layInt(9)), ret())...),
			proc(0, layInt(1), do(api.OpJoin), do(api.OpReturn)))
		d.starts(0, 1, 2, 3, 3)
		d.skips(1, api.StepLock, api.StepLock)
		d.skips(2, api.StepWaitLock)
		d.skips(3, api.StepWaitLock)
		d.skips(4, api.StepWaitJoin)
		d.ready(1, 5)
		e := d.pick(1)
		d.ready(2, 3, 4, 5)
		want := api.Event{What: api.StepJoin, Other: 1, New: e.New, Err: e.Err}
		d.goes(4, want)
		d.goes(5, want)
		d.goes(2, of(api.StepWaitLock, 2))
		d.goes(3, of(api.StepWaitLock, 0))
		d.Settle(10)
		d.ready()
		d.over(4, e.New, e.Err)
		d.over(5, e.New, e.Err)
	}
}

// TestLowestLockFirst: two wait for one lock of one that ends, which holds another one, too, for which nobody waits: that is free
// then.
func TestLowestLockFirst(t *testing.T) {
	take := func(n int64) []api.Instr { return one(layInt(n), do(api.OpLock), do(api.OpPop)) }
	free := func(n int64) []api.Instr { return one(layInt(n), do(api.OpUnlock), do(api.OpPop)) }
	d := newDesk(t, 4, 2, 0,
		proc(0, some(take(1), take(0), one(layNil()), ret())...),
		proc(0, some(take(0), take(1), free(1), free(0), one(layInt(9)), ret())...))
	d.starts(0, 1, 1)
	d.skips(1, api.StepLock, api.StepLock)
	d.skips(2, api.StepWaitLock)
	d.skips(3, api.StepWaitLock)
	d.skips(1, api.StepEnd)
	d.ready(2)
	d.skips(2, api.StepLock, api.StepUnlock, api.StepUnlock)
	d.ready(2, 3)
	d.skips(3, api.StepLock, api.StepUnlock, api.StepUnlock, api.StepEnd)
}

// TestEndedIsOfThreads: of numbers that there are.
func TestEndedIsOfThreads(t *testing.T) {
	d := newDesk(t, 4, 0, 0, consing(), turning(), proc(0, layNil(), prim(api.PrimCar), do(api.OpReturn)))
	d.starts(1, 0, 2)
	d.Settle(30)
	d.going(1)
	d.over(2, number(5), api.OK)
	d.over(3, 0, api.ErrWordKind)
	for _, n := range []int{math.MinInt, -1, 0, 4, 5, 8, 9, math.MaxInt} {
		if x, e := d.Ended(n); x != (api.Ended{}) || e != api.ErrWorldThread {
			t.Error(n, x, e)
		}
	}
}
