package world_test

import (
	"math"
	"math/rand"
	"slices"
	"testing"

	"dapple/api"
	"dapple/world"
)

// counting lays 1, 2 and so on up to most into a global, a step each, and ends with 0.
func counting(global int, most int64) api.Proc {
	var l []api.Instr
	for n := range most {
		l = append(l, layInt(n+1), do(api.OpSetGlobal, global), do(api.OpPop))
	}
	return proc(0, append(l, layInt(0), do(api.OpReturn))...)
}

// counters are threads that count, each in its own global.
func counters(t *testing.T, threads int, most int64) desk {
	t.Helper()
	var l []api.Proc
	for n := range threads {
		l = append(l, counting(n, most))
	}
	d := newDesk(t, 4, 0, threads, l...)
	for n := range threads {
		d.starts(n)
	}
	return d
}

// counts sees how far each of them has counted.
func (d desk) counts(want ...int64) {
	d.Helper()
	var l []api.Word
	for _, n := range want {
		if n == 0 {
			l = append(l, nothing())
		} else {
			l = append(l, number(n))
		}
	}
	d.globals(l...)
}

// TestPickPlaces: of Ready's list the one at the place n modulo its length, with the collector and without it.
func TestPickPlaces(t *testing.T) {
	for threads := range 9 {
		for _, cycle := range []bool{false, true} {
			d := newDesk(t, 4, 0, 0, turning())
			d.starts(make([]int, threads)...)
			if threads == 0 && !cycle {
				continue
			}
			for _, n := range []uint32{0, 1, 2, 3, 4, 5, 6, 7, 8, 9, 10, 17, 18, 35, 1000, 1 << 31, 1<<31 + 1, math.MaxUint32 - 2, math.MaxUint32 - 1, math.MaxUint32} {
				if cycle {
					d.Collect()
				}
				ready := d.Ready()
				want := ready[uint64(n)%uint64(len(ready))]
				if e, did := d.Pick(n); !did || e.Actor != want {
					t.Errorf("Pick(%d) of %v: %+v, %t", n, ready, e, did)
				}
			}
		}
	}
}

// TestPickGoesOneStep: one actor goes one step, and others stand where they stood.
func TestPickGoesOneStep(t *testing.T) {
	d := counters(t, 3, 9)
	d.counts(0, 0, 0)
	d.goes(2, sets(1, nothing(), number(1)))
	d.counts(0, 1, 0)
	d.goes(2, sets(1, number(1), number(2)))
	d.counts(0, 2, 0)
	d.goes(3, sets(2, nothing(), number(1)))
	d.counts(0, 2, 1)
	d.goes(1, sets(0, nothing(), number(1)))
	d.counts(1, 2, 1)
}

// TestReady: who can go a step: nobody, one, many; the collector first, then threads by rising numbers.
func TestReady(t *testing.T) {
	d := newDesk(t, 4, 0, 0, proc(0, layNil(), do(api.OpReturn)), turning())
	d.ready()
	d.collects()
	d.ready(0)
	d.starts(1, 0, 1, 0)
	d.ready(0, 1, 2, 3, 4)
	d.skips(2, api.StepEnd)
	d.ready(0, 1, 3, 4)
	d.skips(0, api.StepBegin)
	d.ready(0, 1, 3, 4)
	d.skips(0, api.StepAsk)
	d.ready(1, 3, 4)
	d.skips(3, api.StepBreath)
	d.ready(1, 3, 4)
	d.skips(4, api.StepEnd)
	d.ready(1, 3)
	d.skips(1, api.StepAck)
	d.ready(0, 1, 3)
	d.skips(0, api.StepScanThread, api.StepAsk)
	d.ready(1, 3)
	d.skips(3, api.StepAck)
	d.ready(0, 1, 3)
	d.till(0, api.StepFinish)
	d.ready(1, 3)
}

// TestNobodyIsReady: what is asked then changes nothing; also when all wait for each other.
func TestNobodyIsReady(t *testing.T) {
	join := func(n int64) api.Proc { return proc(0, layInt(n), do(api.OpJoin), do(api.OpReturn)) }
	stuck := newDesk(t, 4, 0, 0, join(2), join(1))
	stuck.starts(0, 1)
	stuck.skips(1, api.StepWaitJoin)
	stuck.skips(2, api.StepWaitJoin)
	ended := newDesk(t, 4, 0, 0, consing())
	ended.starts(0)
	ended.Settle(9)
	for _, d := range []desk{newDesk(t, 4, 0, 0, consing()), stuck, ended} {
		d.ready()
		for _, n := range []uint32{0, 1, math.MaxUint32} {
			d.changesNothing(func() {
				if e, did := d.Pick(n); did || !same(e, api.Event{}) {
					t.Error(e, did)
				}
			})
		}
		for _, n := range []int{-1, 0, 1, 1000001} {
			d.changesNothing(func() {
				if got := d.Settle(n); got != 0 {
					t.Error(n, got)
				}
			})
		}
	}
}

// TestSettleCounts: below 1, 0, 1, just enough, one more.
func TestSettleCounts(t *testing.T) {
	for _, row := range []struct{ most, want int }{{math.MinInt, 0}, {-1, 0}, {0, 0}, {1, 1}, {2, 2}, {11, 11}, {12, 12}, {13, 12}, {1000000, 12}, {1000001, 12}, {math.MaxInt, 12}} {
		d := counters(t, 3, 3)
		if n := d.Settle(row.most); n != row.want || d.Steps() != row.want {
			t.Errorf("Settle(%d): %d, %d steps", row.most, n, d.Steps())
		}
		if n := d.Settle(100); n != 12-row.want || d.Steps() != 12 {
			t.Errorf("behind Settle(%d): %d, %d steps", row.most, n, d.Steps())
		}
		d.ready()
	}
}

// TestSettleMost: what goes on for ever goes 1000000 steps at most.
func TestSettleMost(t *testing.T) {
	t.Parallel()
	d := newDesk(t, 4, 0, 0, turning())
	d.starts(0)
	for i, row := range []struct{ most, want int }{{999999, 999999}, {1, 1}, {1000001, 1000000}, {math.MaxInt, 1000000}} {
		if n := d.Settle(row.most); n != row.want {
			t.Error(i, n)
		}
	}
	if d.Steps() != 3000000 {
		t.Error(d.Steps())
	}
	d.phase(api.PhaseIdle, 0)
	d.going(1)
}

// TestRoundsInOrder: each goes one step a round; a Settle that ends in the midst of a round is followed by a new one.
func TestRoundsInOrder(t *testing.T) {
	d := counters(t, 3, 9)
	d.Settle(3)
	d.counts(1, 1, 1)
	d.Settle(2)
	d.counts(2, 2, 1)
	d.Settle(2)
	d.counts(3, 3, 1)
	d.Settle(1)
	d.counts(4, 3, 1)
	d.Settle(6)
	d.counts(6, 5, 3)
	d.collects()
	d.Settle(4)
	d.phase(api.PhaseRoots, 1)
	d.counts(7, 6, 4)
	d.Settle(1)
	if v := d.View(); v.Laid != 1 {
		t.Error(v.Laid)
	}
	d.counts(7, 6, 4)
}

// TestRoundsHaveNoNewcomers: who is begun or woken in a round goes a step in the next one.
func TestRoundsHaveNoNewcomers(t *testing.T) {
	d := newDesk(t, 8, 0, 3, proc(0, do(api.OpClosure, 1), do(api.OpSpawn), do(api.OpReturn)), counting(0, 9), counting(1, 9))
	d.starts(0, 2)
	d.skips(1, api.StepAlloc, api.StepLoad, api.StepLoad)
	d.Settle(3) // the spawn, one of thread 2, the end
	d.counts(0, 1, 0)
	d.over(1, number(3), api.OK)
	d.Settle(1)
	d.counts(0, 2, 0)
	d.Settle(2)
	d.counts(1, 3, 0)

	join := proc(0, layInt(1), do(api.OpJoin), do(api.OpSetGlobal, 0), do(api.OpReturn))
	d = newDesk(t, 8, 0, 3, proc(0, layInt(5), do(api.OpReturn)), join, counting(1, 9))
	d.starts(0, 1, 2)
	d.skips(2, api.StepWaitJoin)
	d.Settle(2) // the end, one of thread 3
	d.counts(0, 1, 0)
	d.ready(2, 3)
	d.Settle(1)
	d.counts(0, 1, 0)
	d.Settle(1) // the round begins with thread 2 again
	d.counts(5, 1, 0)
}

// rounds does what Settle does, by picks.
func rounds(t *testing.T, w face, most int) int {
	t.Helper()
	gone := 0
	for {
		ready := w.Ready()
		if len(ready) == 0 {
			return gone
		}
		for _, actor := range ready {
			if gone >= most {
				return gone
			}
			if slices.Contains(w.Ready(), actor) {
				picked(t, w, actor)
				gone++
			}
		}
	}
}

// TestSettleIsRoundsOfPicks on drawn worlds.
func TestSettleIsRoundsOfPicks(t *testing.T) {
	settled := 0
	for seed := range int64(300) {
		r := rand.New(rand.NewSource(seed + 777))
		c, code := drawnWorld(r)
		a, _ := world.New(c, code)
		b, _ := world.New(c, code)
		from := newMover(r)
		for range 60 {
			x := from.next(a)
			if r.Intn(2) == 0 {
				x = move{toSettle, r.Intn(20) - 1}
			}
			if x.what != toSettle {
				made(a, x)
				made(b, x)
				continue
			}
			n, m := a.Settle(x.n), rounds(t, b, x.n)
			settled += n
			if s := seen(a).differs(seen(b)); n != m || s != "" {
				t.Fatalf("seed %d: %d, %d; %s", seed, n, m, s)
			}
		}
	}
	if settled < 20000 {
		t.Error(settled)
	}
}

// TestCollectInEveryState: it is taken if no cycle is asked for or runs; else nothing is changed by it.
func TestCollectInEveryState(t *testing.T) {
	d := newDesk(t, 4, 0, 2, keeping(1), consing())
	d.starts(0, 1)
	busy := func() {
		t.Helper()
		d.changesNothing(func() {
			if e := d.Collect(); e != api.ErrBusy {
				t.Error(e)
			}
		})
	}
	for cycle := range 3 {
		d.phase(api.PhaseIdle, cycle)
		d.collects()
		d.phase(api.PhaseIdle, cycle)
		busy()
		for done := false; !done; {
			for _, actor := range d.Ready() {
				e := d.pick(actor)
				if done = e.What == api.StepFinish; done {
					break
				}
				busy()
			}
		}
	}
	d.phase(api.PhaseIdle, 3)
	d.collects()
	d.skips(0, api.StepBegin)
	d.phase(api.PhaseRoots, 4)
}

// TestStepsAreCounted: those of Pick and of Settle together, those that did not come not at all.
func TestStepsAreCounted(t *testing.T) {
	d := counters(t, 2, 3)
	want := 0
	for _, n := range []int{1, 0, 2, 1, -1, 3} {
		d.Pick(uint32(n))
		d.Collect()
		want += 1 + d.Settle(n)
		d.Start(77)
		if d.Steps() != want {
			t.Error(d.Steps(), want)
		}
	}
	want += d.Settle(1000)
	d.Pick(0)
	d.Settle(9)
	if d.Steps() != want {
		t.Error(d.Steps(), want)
	}
}
