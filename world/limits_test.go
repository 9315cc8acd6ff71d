package world_test

import (
	"slices"
	"testing"

	"dapple/api"
	"dapple/world"
)

// TestMostSteps: a cycle on four cells that all live, with 64 globals and eight threads, has just as many steps as a cycle has at
// most.
func TestMostSteps(t *testing.T) {
	for _, globals := range []int{0, 1, 64} {
		d := newDesk(t, 4, 0, globals, hoard(4), turning())
		d.starts(0, 1, 1, 1, 1, 1, 1, 1)
		d.skips(1, api.StepAlloc, api.StepAlloc, api.StepAlloc, api.StepAlloc)
		d.collects()
		steps := 0
		for done := false; !done; {
			for _, actor := range d.Ready() {
				e := d.pick(actor)
				if actor == 0 {
					steps++
				}
				done = done || e.What == api.StepFinish
			}
		}
		if want := 2*4 + globals + 8 + 3; steps != want {
			t.Error(globals, steps, want)
		}
	}
}

// TestManyCells: a list of all but a few of 4096 cells, met by a cycle, stays; dropped, all of it is given back.
func TestManyCells(t *testing.T) {
	t.Parallel()
	w, e := world.New(api.Config{Cells: 4096}, compiled(t, "(define l '()) (define n 0) (while (< n 4090) (set! l (cons n l)) (set! n (+ n 1))) (set! l 0) 7"))
	if e != api.OK {
		t.Fatal(e)
	}
	d := desk{t, w}
	d.starts(0)
	for len(d.Free()) > 6 {
		d.Settle(1)
	}
	d.collects()
	d.till(0, api.StepAsk)
	d.skips(1, api.StepAck)
	scanned := 0
	for d.pick(0).What == api.StepScan {
		scanned++
	}
	if scanned < 4089 || scanned > 4090 {
		t.Error(scanned, "were scanned")
	}
	freed := d.till(0, api.StepFinish)
	if freed.Other > 1 {
		t.Error(freed.Other, "were given back")
	}
	for range 10 {
		d.Settle(100)
	}
	d.over(1, number(7), api.OK)
	d.collects()
	if e := d.till(0, api.StepFinish); e.Other < 4089 {
		t.Error(e.Other, "were given back")
	}
	if len(d.Free()) != 4096 {
		t.Error(len(d.Free()), "are free")
	}
}

// TestAllCellsAtOnce: the last cell of 4096 is given out, and nobody gets one more.
func TestAllCellsAtOnce(t *testing.T) {
	d := newDesk(t, 4096, 0, 1, proc(0, layNil(), do(api.OpSetGlobal, 0), do(api.OpPop), layInt(1), do(api.OpGlobal, 0), prim(api.PrimCons), do(api.OpJump, 1)), hoard(1))
	d.starts(0)
	d.Settle(1 + 3*4096)
	d.free()
	d.cell(4095, pair(api.White, number(1), ref(4094)))
	d.skips(1, api.StepGlobal)
	d.goes(1, api.Event{What: api.StepWait})
	d.starts(1)
	d.goes(2, api.Event{What: api.StepWait})
	d.waiting(api.Waiter{Thread: 1}, api.Waiter{Thread: 2})
	d.collects()
	if n := d.Settle(100000); n != 2*4096+1+2+3+2 {
		t.Error(n)
	}
	d.over(1, 0, api.ErrNoCells)
	d.over(2, 0, api.ErrNoCells)
}

// TestAllLocks: eight threads take eight locks, and one more waits for each.
func TestAllLocks(t *testing.T) {
	take := func(n int) []api.Instr { return one(layInt(int64(n)), do(api.OpLock), do(api.OpPop)) }
	var procs []api.Proc
	for n := range 8 {
		procs = append(procs, proc(0, some(take(n), take((n+1)%8), one(layNil()), ret())...))
	}
	d := newDesk(t, 4, 8, 0, procs...)
	for n := range 8 {
		d.starts(n)
		d.goes(n+1, of(api.StepLock, n))
	}
	for n := range 8 {
		d.goes(n+1, of(api.StepWaitLock, (n+1)%8))
	}
	d.ready()
	d.collects()
	d.skips(0, api.StepBegin)
	for n := range 8 {
		d.goes(0, of(api.StepScanThread, n+1))
	}
	d.goes(0, checks())
}

// TestDeepStacks: a thread with 255 words and one with 64 frames have all of it among their roots.
func TestDeepStacks(t *testing.T) {
	var l []api.Instr
	for range 4 {
		l = append(l, newPair(1)...)
	}
	l = append(l, slices.Repeat(one(layNil()), 250)...)
	l = some(l, pause(), one(do(api.OpJump, len(l))))
	d := newDesk(t, 4, 0, 0, proc(0, l...))
	d.starts(0)
	d.skips(1, api.StepAlloc, api.StepAlloc, api.StepAlloc, api.StepAlloc, api.StepBreath)
	want := append([]api.Word{ref(0), ref(1), ref(2), ref(3)}, slices.Repeat([]api.Word{null()}, 250)...)
	d.roots(append(append(want, nothing()), null())...)
	d.collects()
	d.skips(0, api.StepBegin)
	d.asks(1, 0, 1, 2, 3)
	d.sweepsAll(0)

	d = newDesk(t, 200, 0, 0, proc(0, do(api.OpClosure, 1), layInt(1), do(api.OpCall, 1), do(api.OpReturn)), proc(1, do(api.OpClosure, 1), layInt(2), do(api.OpCall, 1), do(api.OpReturn)))
	d.starts(0)
	for range 63 {
		d.skips(1, api.StepAlloc, api.StepLoad, api.StepLoad, api.StepAlloc)
	}
	d.skips(1, api.StepAlloc)
	if n := len(d.Roots()); n != 64+1 {
		t.Error(n)
	}
	d.collects()
	d.skips(0, api.StepBegin, api.StepAsk)
	if e := d.pick(1); len(e.Shaded) != 64 {
		t.Errorf("%+v", e)
	}
	d.goes(1, fails(api.ErrVMFrames))
	d.roots()
}

// TestManyCycles: a world in which cycle follows cycle goes on as at first.
func TestManyCycles(t *testing.T) {
	d := newDesk(t, 4, 0, 1, proc(0, some(pairInto(0, 1), one(do(api.OpJump, 0)))...), hoard(1))
	d.starts(0, 1)
	for cycle := range 2000 {
		d.collects()
		for phase, _ := d.Phase(); phase != api.PhaseIdle || d.Ready()[0] == 0; phase, _ = d.Phase() {
			d.Settle(len(d.Ready()))
		}
		d.phase(api.PhaseIdle, cycle+1)
	}
	d.going(1, 2)
}
