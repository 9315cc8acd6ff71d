package world_test

import (
	"slices"
	"testing"

	"dapple/api"
)

// hoard makes pairs, all of which it keeps on its stack, and turns then.
func hoard(pairs int) api.Proc {
	var l []api.Instr
	for n := range pairs {
		l = append(l, newPair(int64(n))...)
	}
	at := len(l)
	return proc(0, some(l, pause(), one(do(api.OpJump, at)))...)
}

// waster makes pairs, and drops each of them at once; then it turns.
func waster(pairs int) api.Proc {
	var l []api.Instr
	for n := range pairs {
		l = some(l, newPair(int64(n)), one(do(api.OpPop)))
	}
	at := len(l)
	return proc(0, some(l, pause(), one(do(api.OpJump, at)))...)
}

// wastes lets such a thread go up to where it has dropped all of its pairs.
func (d desk) wastes(thread, pairs int) {
	d.Helper()
	d.skips(thread, slices.Repeat([]api.What{api.StepAlloc}, pairs)...)
	d.skips(thread, api.StepBreath)
}

// asks lets the collector ask a thread, which lays its roots, of which these become grey.
func (d desk) asks(thread int, shaded ...int) {
	d.Helper()
	d.goes(0, of(api.StepAsk, thread))
	d.goes(thread, acks(shaded...))
}

// sweepsAll lets the collector sweep, from StepCheck on, up to StepFinish, which must tell so many.
func (d desk) sweepsAll(freed int) {
	d.Helper()
	if e := d.till(0, api.StepFinish); e.Other != freed {
		d.Errorf("%+v, not %d", e, freed)
	}
}

// TestInOrder: what comes back goes to who waits longest, ahead of all newcomers; and so on.
func TestInOrder(t *testing.T) {
	d := newDesk(t, 4, 0, 0, waster(4), hoard(1))
	d.starts(0, 1, 1, 1)
	d.wastes(1, 4)
	d.goes(3, api.Event{What: api.StepWait})
	d.goes(4, api.Event{What: api.StepWait})
	d.goes(2, api.Event{What: api.StepWait})
	d.waiting(api.Waiter{Thread: 3}, api.Waiter{Thread: 4}, api.Waiter{Thread: 2})
	d.ready(1)
	d.collects()
	d.starts(1)
	d.skips(0, api.StepBegin)
	d.asks(1)
	d.goes(0, of(api.StepScanThread, 2))
	d.goes(0, of(api.StepScanThread, 3))
	d.goes(0, of(api.StepScanThread, 4))
	d.asks(5)
	d.goes(0, checks())
	d.goes(0, frees(0, 3))
	d.goes(5, api.Event{What: api.StepWait})
	d.waiting(api.Waiter{Thread: 4}, api.Waiter{Thread: 2}, api.Waiter{Thread: 5, Begun: 1})
	d.ready(0, 1, 3)
	d.goes(0, frees(1, 4))
	d.goes(0, frees(2, 2))
	d.free()
	d.waiting(api.Waiter{Thread: 5, Begun: 1})
	d.goes(0, frees(3, 5))
	d.waiting()
	d.free()
	d.ready(0, 1, 2, 3, 4, 5)
	d.goes(5, allocs(3, number(0), null()))
	d.goes(2, allocs(2, number(0), null()))
	d.goes(0, of(api.StepFinish, 4))
	d.goes(4, allocs(1, number(0), null()))
	d.goes(3, allocs(0, number(0), null()))
	d.free()
}

// TestFreedWhenNobodyWaits: it is free, and the least one goes out first.
func TestFreedWhenNobodyWaits(t *testing.T) {
	d := newDesk(t, 4, 0, 0, waster(3), hoard(4))
	d.starts(0, 1)
	d.wastes(1, 3)
	d.free(3)
	d.collects()
	d.skips(0, api.StepBegin)
	d.asks(1)
	d.asks(2)
	d.goes(0, checks())
	d.goes(0, frees(0, 0))
	d.free(0, 3)
	d.goes(0, frees(1, 0))
	d.free(0, 1, 3)
	d.goes(2, allocs(0, number(0), null()))
	d.goes(2, allocs(1, number(1), null()))
	d.free(3)
	d.goes(2, allocs(3, number(2), null()))
	d.colours(api.White, api.White, api.White, api.Black)
	d.goes(2, api.Event{What: api.StepWait})
	d.goes(0, frees(2, 2))
	d.goes(0, keeps(3))
	d.colours(api.White, api.White, api.White, api.White)
	d.goes(0, of(api.StepFinish, 3))
	d.goes(2, allocs(2, number(3), null()))
}

// TestRefused: just those who waited ahead of the beginning of a cycle that gave nothing back.
func TestRefused(t *testing.T) {
	d := newDesk(t, 4, 0, 0, hoard(4), hoard(1), turning())
	d.starts(0, 1, 2, 1, 1)
	d.skips(1, api.StepAlloc, api.StepAlloc, api.StepAlloc, api.StepAlloc)
	d.skips(4, api.StepWait)
	d.skips(2, api.StepWait)
	d.collects()
	d.skips(0, api.StepBegin)
	d.skips(5, api.StepWait)
	d.waiting(api.Waiter{Thread: 4}, api.Waiter{Thread: 2}, api.Waiter{Thread: 5, Begun: 1})
	d.asks(1, 0, 1, 2, 3)
	d.skips(0, api.StepScanThread)
	d.asks(3)
	d.skips(0, api.StepScanThread, api.StepScanThread)
	d.sweepsAll(0)
	d.waiting(api.Waiter{Thread: 5, Begun: 1})
	d.ready(1, 2, 3, 4)
	d.going(1, 2, 3, 4, 5)
	d.goes(2, fails(api.ErrNoCells))
	d.over(2, 0, api.ErrNoCells)
	d.going(4)
	d.goes(4, fails(api.ErrNoCells))
	d.over(4, 0, api.ErrNoCells)
	d.ready(1, 3)
	d.collects()
	d.skips(0, api.StepBegin)
	d.asks(1, 0, 1, 2, 3)
	d.skips(0, api.StepScanThread)
	d.asks(3)
	d.skips(0, api.StepScanThread, api.StepScanThread)
	d.sweepsAll(0)
	d.waiting()
	d.goes(5, fails(api.ErrNoCells))
}

// TestNotRefused: a cycle that gave something back refuses nobody, also not those who got nothing.
func TestNotRefused(t *testing.T) {
	d := newDesk(t, 4, 0, 0, hoard(3), waster(1), hoard(1))
	d.starts(0, 1, 2, 2)
	d.skips(1, api.StepAlloc, api.StepAlloc, api.StepAlloc)
	d.wastes(2, 1)
	d.skips(3, api.StepWait)
	d.skips(4, api.StepWait)
	d.collects()
	d.skips(0, api.StepBegin)
	d.asks(1, 0, 1, 2)
	d.asks(2)
	d.skips(0, api.StepScanThread, api.StepScanThread)
	d.sweepsAll(1)
	d.waiting(api.Waiter{Thread: 4})
	d.ready(1, 2, 3)
	d.goes(3, allocs(3, number(0), null()))
	d.collects()
	d.skips(0, api.StepBegin)
	d.asks(1, 0, 1, 2)
	d.asks(2)
	d.asks(3, 3)
	d.skips(0, api.StepScanThread)
	d.sweepsAll(0)
	d.goes(4, fails(api.ErrNoCells))
}

// TestRefusedAndAsked: one that was refused, and is asked by the next cycle ahead of its end, lays its roots first.
func TestRefusedAndAsked(t *testing.T) {
	d := newDesk(t, 4, 0, 0, hoard(5))
	d.starts(0)
	d.skips(1, api.StepAlloc, api.StepAlloc, api.StepAlloc, api.StepAlloc, api.StepWait)
	d.collects()
	d.skips(0, api.StepBegin)
	d.goes(0, of(api.StepScanThread, 1, 0, 1, 2, 3))
	d.sweepsAll(0)
	d.collects()
	d.skips(0, api.StepBegin)
	d.asks(1, 0, 1, 2, 3)
	d.going(1)
	d.goes(1, fails(api.ErrNoCells))
	d.roots()
	d.sweepsAll(0)
	d.collects()
	if n := d.Settle(100); n != 8 {
		t.Error(n)
	}
	d.free(0, 1, 2, 3)
}

// TestWhoJoinsOneThatIsRefused hears that error; its locks are handed on.
func TestWhoJoinsOneThatIsRefused(t *testing.T) {
	keeper := hoard(5)
	keeper.Code = some(one(layInt(0), do(api.OpLock), do(api.OpPop)), keeper.Code)
	keeper.Code[len(keeper.Code)-1].A += 3
	d := newDesk(t, 4, 1, 0, keeper, proc(0, layInt(1), do(api.OpJoin), do(api.OpReturn)), proc(0, layInt(0), do(api.OpLock), do(api.OpReturn)))
	d.starts(0, 1, 2)
	d.skips(1, api.StepLock, api.StepAlloc, api.StepAlloc, api.StepAlloc, api.StepAlloc, api.StepWait)
	d.skips(2, api.StepWaitJoin)
	d.skips(3, api.StepWaitLock)
	d.ready()
	d.collects()
	d.till(0, api.StepFinish)
	d.ready(1)
	d.goes(1, fails(api.ErrNoCells))
	d.ready(2, 3)
	d.goes(2, api.Event{What: api.StepJoin, Other: 1, Err: api.ErrNoCells})
	d.over(2, 0, api.ErrNoCells)
	d.goes(3, ends(nothing()))
}

// TestScannedWhileItWaits: who waits, for a cell, a thread or a lock, is scanned by the collector; its request's words are among
// its roots.
func TestScannedWhileItWaits(t *testing.T) {
	d := newDesk(t, 4, 1, 0,
		proc(0, some(one(layInt(0), do(api.OpLock), do(api.OpPop)), pause(), one(do(api.OpJump, 3)))...),
		proc(0, some(newPair(1), newPair(2), one(prim(api.PrimCons)), one(prim(api.PrimBox)), one(prim(api.PrimBox)), ret())...),
		proc(0, some(newPair(3), one(layInt(1), do(api.OpJoin), do(api.OpReturn)))...),
		proc(0, some(one(layInt(0), do(api.OpLock)), ret())...))
	d.starts(0, 2, 1, 3)
	d.skips(1, api.StepLock)
	d.skips(2, api.StepAlloc, api.StepWaitJoin)
	d.skips(3, api.StepAlloc, api.StepAlloc, api.StepAlloc, api.StepWait)
	d.skips(4, api.StepWaitLock)
	d.ready(1)
	d.collects()
	d.skips(0, api.StepBegin)
	d.asks(1)
	d.goes(0, of(api.StepScanThread, 2, 0))
	d.goes(0, of(api.StepScanThread, 3, 3))
	d.goes(0, of(api.StepScanThread, 4))
	d.goes(0, scans(0))
	d.goes(0, scans(3, 1, 2))
	d.sweepsAll(0)
}

// TestRequestsWordsAreRoots: a word that a thread has in its request alone stays.
func TestRequestsWordsAreRoots(t *testing.T) {
	d := newDesk(t, 4, 0, 0, proc(0, some(newPair(1), newPair(2), one(prim(api.PrimCons)), newPair(3), one(prim(api.PrimCons), prim(api.PrimCar), prim(api.PrimCar), prim(api.PrimCar)), ret())...), waster(1))
	d.starts(0)
	d.skips(1, api.StepAlloc, api.StepAlloc, api.StepAlloc, api.StepAlloc, api.StepWait)
	d.roots(ref(2), ref(3), null(), ref(2), ref(3))
	d.collects()
	d.skips(0, api.StepBegin)
	d.goes(0, of(api.StepScanThread, 1, 2, 3))
	d.goes(0, scans(2, 0, 1))
	d.goes(0, scans(3))
	d.sweepsAll(0)
	d.roots(ref(2), ref(3), null(), ref(2), ref(3))
	d.goes(1, fails(api.ErrNoCells))
}

// TestAskedBetweenAGiftAndItsFilling: it lays its roots first, its request's words among them; the cell is filled by the step
// behind that, and is black.
func TestAskedBetweenAGiftAndItsFilling(t *testing.T) {
	// Thread 1 has a pair on its stack, and asks for a box for it.
	d := newDesk(t, 4, 0, 0, proc(0, some(newPair(1), one(prim(api.PrimBox)), pause(), one(do(api.OpPop), layNil()), ret())...), waster(3), turning())
	d.starts(0, 1, 2)
	d.skips(1, api.StepAlloc)
	d.wastes(2, 3)
	d.skips(1, api.StepWait)
	d.roots(ref(0), null(), ref(0), null(), nothing(), null(), null())
	d.collects()
	d.skips(0, api.StepBegin)
	d.goes(0, of(api.StepScanThread, 1, 0))
	d.asks(2)
	d.asks(3)
	d.skips(0, api.StepScan, api.StepCheck)
	d.goes(0, keeps(0))
	d.goes(0, frees(1, 1))
	d.sweepsAll(3)
	d.free(2, 3)
	d.cell(1, api.Cell{})
	d.ready(1, 2, 3)
	for cycle := range 2 {
		// The cell that is given stays free over a whole cycle, and is nobody else's.
		d.collects()
		d.goes(0, of(api.StepBegin, cycle+2))
		d.goes(0, of(api.StepAsk, 1))
		d.ready(1, 2, 3)
		d.roots(ref(0), null(), ref(0), null(), nothing(), null(), null())
		d.goes(1, acks(0))
		d.roots(ref(0), null(), ref(0), null(), nothing(), null(), null())
		d.asks(2)
		d.asks(3)
		if cycle == 0 {
			d.sweepsAll(0)
			d.free(2, 3)
			d.cell(1, api.Cell{})
		}
	}
	d.goes(1, allocs(1, ref(0), null()))
	d.cell(1, box(api.Black, ref(0)))
	d.sweepsAll(0)
	d.cell(1, box(api.White, ref(0)))
	d.free(2, 3)
}

// TestGiftIsFilledUnscanned: one that was given a cell, and fills it while it is not scanned, shades what it lays into it.
func TestGiftIsFilledUnscanned(t *testing.T) {
	d := newDesk(t, 4, 0, 0, proc(0, some(newPair(1), one(prim(api.PrimBox)), pause(), one(prim(api.PrimUnbox), prim(api.PrimCar)), ret())...), waster(3))
	d.starts(0, 1)
	d.skips(1, api.StepAlloc)
	d.wastes(2, 3)
	d.skips(1, api.StepWait)
	d.collects()
	d.skips(0, api.StepBegin, api.StepScanThread)
	d.asks(2)
	d.sweepsAll(3)
	d.collects()
	d.skips(0, api.StepBegin)
	d.goes(1, allocs(1, ref(0), null(), 0))
	d.colours(api.Grey, api.Black)
	d.goes(0, of(api.StepAsk, 1))
	d.goes(1, acks())
	d.asks(2)
	d.sweepsAll(0)
	d.Settle(10)
	d.over(1, number(1), api.OK)
}

// TestGiftsOfTwo: two that were given cells in one sweep fill those, whoever goes first; who has not waited takes a free one.
func TestGiftsOfTwo(t *testing.T) {
	d := newDesk(t, 4, 0, 0, waster(4), hoard(1))
	d.starts(0, 1, 1, 1)
	d.wastes(1, 4)
	d.skips(3, api.StepWait)
	d.skips(2, api.StepWait)
	d.collects()
	d.skips(0, api.StepBegin)
	d.asks(1)
	d.skips(0, api.StepScanThread, api.StepScanThread)
	d.asks(4)
	d.goes(0, checks())
	d.goes(0, frees(0, 3))
	d.goes(0, frees(1, 2))
	d.goes(0, frees(2, 0))
	d.free(2)
	d.goes(4, allocs(2, number(0), null()))
	d.goes(2, allocs(1, number(0), null()))
	d.goes(0, frees(3, 0))
	d.free(3)
	d.goes(3, allocs(0, number(0), null()))
	d.free(3)
}

// TestWokenAndAsked: one that is woken ahead of being scanned is asked; one that was scanned while it waited is not.
func TestWokenAndAsked(t *testing.T) {
	join := proc(0, some(newPair(1), one(layInt(3), do(api.OpJoin), do(api.OpPop)), pause(), one(do(api.OpJump, 6)))...)
	d := newDesk(t, 4, 0, 0, turning(), join, proc(0, layNil(), do(api.OpReturn)))
	d.starts(0, 1, 2)
	d.skips(2, api.StepAlloc, api.StepWaitJoin)
	d.collects()
	d.skips(0, api.StepBegin)
	d.asks(1)
	d.skips(3, api.StepEnd)
	d.asks(2, 0)
	d.goes(0, of(api.StepScanThread, 3))

	d = newDesk(t, 4, 0, 0, turning(), join, proc(0, layNil(), do(api.OpReturn)))
	d.starts(0, 1, 2)
	d.skips(2, api.StepAlloc, api.StepWaitJoin)
	d.collects()
	d.skips(0, api.StepBegin)
	d.asks(1)
	d.goes(0, of(api.StepScanThread, 2, 0))
	d.skips(3, api.StepEnd)
	d.goes(2, api.Event{What: api.StepJoin, Other: 3, New: null()})
	d.goes(0, of(api.StepScanThread, 3))
	d.goes(0, scans(0))
}

// TestAskedGoesOn: one that was asked lays its roots, whatever its next step is, and does nothing else; then that step comes.
func TestAskedGoesOn(t *testing.T) {
	for _, row := range []struct {
		ahead []api.Instr
		want  api.Event
	}{
		{one(layNil(), do(api.OpReturn)), ends(null())},
		{one(layNil(), layNil(), prim(api.PrimCons), do(api.OpReturn)), allocs(0, null(), null())},
		{one(layInt(2), do(api.OpJoin), do(api.OpReturn)), of(api.StepWaitJoin, 2)},
		{one(layInt(0), do(api.OpLock), do(api.OpReturn)), of(api.StepLock, 0)},
		{one(layInt(0), do(api.OpUnlock), do(api.OpReturn)), api.Event{What: api.StepUnlock, Err: api.ErrLocksNot}},
		{one(do(api.OpGlobal, 0), do(api.OpReturn)), api.Event{What: api.StepGlobal, Err: api.ErrVMUnset}},
		{one(layNil(), do(api.OpSetGlobal, 0), do(api.OpReturn)), sets(0, nothing(), null())},
		{one(layNil(), prim(api.PrimError), do(api.OpReturn)), fails(api.ErrVMRaised)},
		{one(do(api.OpYield), do(api.OpReturn)), breath()},
	} {
		d := newDesk(t, 4, 1, 1, proc(0, row.ahead...), turning())
		d.starts(0, 1)
		d.collects()
		d.skips(0, api.StepBegin, api.StepRoot, api.StepAsk)
		was := seen(d)
		d.goes(1, acks())
		is := seen(d)
		if is.steps != was.steps+1 || !slices.Equal(is.ready, []int{0, 1, 2}) || !slices.Equal(is.heap, was.heap) || !slices.Equal(is.roots, was.roots) || is.ended != was.ended || !slices.Equal(is.free, was.free) {
			t.Errorf("%+v, %+v", was, is)
		}
		d.goes(1, row.want)
	}
}
