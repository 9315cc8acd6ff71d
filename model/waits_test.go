package model_test

import (
	"testing"

	"dapple/api"
)

// TestLocks: taken, held, handed on to who waits longest; who waits goes no step till then.
func TestLocks(t *testing.T) {
	user := proc(0, some(take(1), pause(), one(layInt(1), do(api.OpUnlock)), ret())...)
	d := newDesk(t, 2, 0, user)
	d.starts(0, 0, 0, 0)
	d.goes(3, of(api.StepLock, 1))
	d.goes(4, of(api.StepWaitLock, 1))
	d.stands(4)
	d.goes(1, of(api.StepWaitLock, 1))
	d.stands(1, 4)
	d.goes(3, breath())
	d.goes(2, of(api.StepWaitLock, 1))
	d.stands(1, 2, 4)
	d.going(1, 2, 3, 4)
	d.goes(3, of(api.StepUnlock, 1))
	d.stands(1, 2)
	d.goes(3, ends(nothing()))
	d.stands(1, 2, 3)
	d.goes(4, breath())
	d.goes(4, of(api.StepUnlock, 1))
	d.stands(2)
	d.goes(1, breath())
	d.goes(1, of(api.StepUnlock, 1))
	d.goes(2, breath())
	d.goes(2, of(api.StepUnlock, 1))
	for _, n := range []int{1, 2, 4} {
		d.goes(n, ends(nothing()))
	}
	d.stands(1, 2, 3, 4)
}

// TestLockTwice: who holds it ends by that, and hands it on.
func TestLockTwice(t *testing.T) {
	d := newDesk(t, 1, 0, proc(0, some(take(0), one(layInt(0), do(api.OpLock)), ret())...))
	d.starts(0, 0)
	d.goes(1, of(api.StepLock, 0))
	d.goes(2, of(api.StepWaitLock, 0))
	d.goes(1, api.Event{What: api.StepLock, Err: api.ErrLocksTwice})
	d.over(1, 0, api.ErrLocksTwice)
	d.goes(2, api.Event{What: api.StepLock, Err: api.ErrLocksTwice})
}

// TestUnlockOfAnothers: who holds a lock that others hold ends by handing it on, and the lock stays where it is.
func TestUnlockOfAnothers(t *testing.T) {
	d := newDesk(t, 1, 0, proc(0, some(take(0), pause(), give(0), one(layNil()), ret())...), proc(0, some(give(0), one(layNil()), ret())...))
	d.starts(0, 1, 0)
	d.goes(1, of(api.StepLock, 0))
	d.goes(2, api.Event{What: api.StepUnlock, Err: api.ErrLocksNot})
	d.goes(3, of(api.StepWaitLock, 0))
	d.goes(1, breath())
	d.stands(3)
	d.goes(1, of(api.StepUnlock, 0))
	d.goes(3, breath())
}

// TestEndGivesLocksOn: by a word, by an access's error, by an error ahead of any access, by a refusal: each lock goes to who waits
// longest for it, and all who wait for its end go on, and hear of it.
func TestEndGivesLocksOn(t *testing.T) {
	for _, row := range []struct {
		last   []api.Instr
		refuse bool
		want   api.Event
	}{
		{one(layInt(4)), false, ends(number(4))},
		{one(do(api.OpGlobal, 0)), false, api.Event{What: api.StepGlobal, Err: api.ErrVMUnset}},
		{one(layInt(0), do(api.OpLock)), false, api.Event{What: api.StepLock, Err: api.ErrLocksTwice}},
		{one(layNil(), prim(api.PrimError)), false, fails(api.ErrVMRaised)},
		{newPair(3), true, fails(api.ErrNoCells)},
	} {
		d := newDesk(t, 3, 1,
			proc(0, some(take(2), take(0), row.last, ret())...),
			proc(0, some(take(0), take(2), one(layInt(9)), ret())...),
			proc(0, some(take(2), take(0), one(layInt(9)), ret())...),
			proc(0, some(join(1), ret())...))
		d.starts(0, 1, 2, 3, 3, 3)
		d.skips(1, api.StepLock, api.StepLock)
		if row.refuse {
			d.refuses(1)
		}
		d.skips(2, api.StepWaitLock)
		d.skips(3, api.StepWaitLock)
		d.skips(4, api.StepWaitJoin)
		d.skips(6, api.StepWaitJoin)
		d.stands(2, 3, 4, 6)
		d.goes(1, row.want)
		d.over(1, row.want.New, row.want.Err)
		d.going(2, 3, 4, 5, 6)
		heard := api.Event{What: api.StepJoin, Other: 1, New: row.want.New, Err: row.want.Err}
		for _, n := range []int{4, 5, 6} {
			d.goes(n, heard)
		}
		d.goes(2, of(api.StepWaitLock, 2))
		d.goes(3, of(api.StepWaitLock, 0))
		d.stands(1, 2, 3)
		if row.want.Err != api.OK {
			d.over(4, 0, row.want.Err)
			d.over(5, 0, row.want.Err)
			d.stands(4, 5, 6)
		} else {
			d.goes(4, ends(row.want.New))
		}
	}
}

// TestLocksThatNobodyWaitsFor: those of one that ends are free then.
func TestLocksThatNobodyWaitsFor(t *testing.T) {
	d := newDesk(t, 2, 0,
		proc(0, some(take(1), take(0), one(layNil()), ret())...),
		proc(0, some(take(0), take(1), give(1), give(0), one(layInt(9)), ret())...))
	d.starts(0, 1, 1)
	d.skips(1, api.StepLock, api.StepLock)
	d.skips(2, api.StepWaitLock)
	d.skips(3, api.StepWaitLock)
	d.skips(1, api.StepEnd)
	d.stands(3)
	d.skips(2, api.StepLock, api.StepUnlock)
	d.stands(3)
	d.skips(2, api.StepUnlock)
	d.skips(3, api.StepLock, api.StepUnlock, api.StepUnlock, api.StepEnd)
	d.skips(2, api.StepEnd)
}

// TestRing: threads that wait for each other go on no more, and can be refused for ever.
func TestRing(t *testing.T) {
	d := newDesk(t, 2, 0, proc(0, some(take(0), take(1), newPair(1), ret())...), proc(0, some(take(1), take(0), newPair(2), ret())...), proc(0, some(join(1), ret())...))
	d.starts(0, 1, 2)
	d.goes(1, of(api.StepLock, 0))
	d.goes(2, of(api.StepLock, 1))
	d.goes(1, of(api.StepWaitLock, 1))
	d.goes(2, of(api.StepWaitLock, 0))
	d.goes(3, of(api.StepWaitJoin, 1))
	for range 3 {
		d.stands(1, 2, 3)
		d.refuses(1, 2, 3)
	}
	d.going(1, 2, 3)
}

// TestAllLocks: eight threads take eight locks, and each waits for the next one's.
func TestAllLocks(t *testing.T) {
	var procs []api.Proc
	for n := range int64(8) {
		procs = append(procs, proc(0, some(take(n), take((n+1)%8), one(layNil()), ret())...))
	}
	d := newDesk(t, 8, 0, procs...)
	for n := range 8 {
		d.starts(n)
		d.goes(n+1, of(api.StepLock, n))
	}
	for n := range 8 {
		d.goes(n+1, of(api.StepWaitLock, (n+1)%8))
	}
	d.stands(1, 2, 3, 4, 5, 6, 7, 8)
}
