package world_test

import (
	"math"
	"slices"
	"testing"

	"dapple/api"
	"dapple/code"
	"dapple/world"
)

// refusesNew sees that New tells that error, and nothing.
func refusesNew(t *testing.T, c api.Config, code api.Code, want api.Errno) {
	t.Helper()
	if w, e := world.New(c, code); w != nil || e != want {
		t.Errorf("New(%v): %v, %d, not %d", c, w, e, want)
	}
}

// TestConfigs: Cells 4 to 4096, Locks 0 to 8.
func TestConfigs(t *testing.T) {
	c := coded(0, consing())
	for _, cells := range []int{math.MinInt, -4, -1, 0, 1, 3, 4, 5, 4095, 4096, 4097, 5000, math.MaxInt} {
		for _, locks := range []int{math.MinInt, -1, 0, 1, 7, 8, 9, math.MaxInt} {
			g := api.Config{Cells: cells, Locks: locks}
			if cells < 4 || cells > 4096 || locks < 0 || locks > 8 {
				refusesNew(t, g, c, api.ErrArg)
				refusesNew(t, g, api.Code{}, api.ErrArg)
				continue
			}
			w, e := world.New(g, c)
			if e != api.OK || w == nil {
				t.Fatal(g, e)
			}
			refusesNew(t, g, api.Code{}, api.ErrCodeForm)
		}
	}
}

// TestNewWorld: what one has at first, of each count of cells and globals.
func TestNewWorld(t *testing.T) {
	for _, cells := range []int{4, 5, 100, 4096} {
		for _, globals := range []int{0, 1, 2, 63, 64} {
			d := newDesk(t, cells, 0, globals, consing())
			var all []int
			for n := range cells {
				all = append(all, n)
			}
			d.free(all...)
			if !slices.Equal(d.Heap(), make([]api.Cell, cells)) {
				t.Error("not all cells are free")
			}
			none := slices.Repeat([]api.Word{nothing()}, globals)
			d.globals(none...)
			d.roots(none...)
			d.ready()
			d.waiting()
			d.phase(api.PhaseIdle, 0)
			if d.Steps() != 0 || d.Threads() != 0 {
				t.Error(d.Steps(), d.Threads())
			}
			if v := d.View(); !sameView(v, api.View{Cells: make([]api.Cell, cells), Globals: none}) {
				t.Errorf("%+v", v)
			}
			if e, did := d.Pick(0); did || !same(e, api.Event{}) {
				t.Error(e, did)
			}
			if n := d.Settle(10); n != 0 {
				t.Error(n)
			}
			for _, n := range []int{math.MinInt, -1, 0, 1, 8, 9, math.MaxInt} {
				if x, e := d.Ended(n); x != (api.Ended{}) || e != api.ErrWorldThread {
					t.Error(n, x, e)
				}
			}
		}
	}
}

// TestCodeThatMayNotBe: Check's error.
func TestCodeThatMayNotBe(t *testing.T) {
	good := coded(2, consing())
	change := func(f func(c *api.Code)) api.Code {
		c := coded(2, consing())
		f(&c)
		return c
	}
	for i, c := range []api.Code{
		{},
		change(func(c *api.Code) { c.Procs = nil }),
		change(func(c *api.Code) { c.Procs = slices.Repeat(c.Procs, 257) }),
		change(func(c *api.Code) { c.Consts = slices.Repeat(c.Consts, 100) }),
		change(func(c *api.Code) { c.Globals = coded(65, consing()).Globals }),
		change(func(c *api.Code) { c.Consts[0] = ref(0) }),
		change(func(c *api.Code) { c.Consts[0] = 0 }),
		change(func(c *api.Code) { c.Globals[1] = c.Globals[0] }),
		change(func(c *api.Code) { c.Globals[1] = "a b" }),
		change(func(c *api.Code) { c.Procs[0].Params = -1 }),
		change(func(c *api.Code) { c.Procs[0].Code[0].A = 1000 }),
		change(func(c *api.Code) { c.Procs[0].Code = c.Procs[0].Code[:4] }),
		change(func(c *api.Code) { c.Procs[0].Code[1] = do(api.OpPop) }),
		change(func(c *api.Code) { c.Procs[0].Code[1].Op = 0 }),
		change(func(c *api.Code) {
			c.Procs = append(c.Procs, proc(0, slices.Repeat(one(do(api.OpJump, 0)), 4097)...))
		}),
	} {
		want, _, _ := code.Check(c)
		if want == api.OK {
			t.Fatal(i, "may be")
		}
		refusesNew(t, api.Config{Cells: 4}, c, want)
		refusesNew(t, api.Config{Cells: 3}, c, api.ErrArg)
		refusesNew(t, api.Config{Cells: 4, Locks: 9}, c, api.ErrArg)
	}
	if w, e := world.New(api.Config{Cells: 4}, good); w == nil || e != api.OK {
		t.Error(e)
	}
}

// TestStarts: of which procedures.
func TestStarts(t *testing.T) {
	d := newDesk(t, 4, 0, 0, consing(), proc(1, do(api.OpVar, 0), do(api.OpReturn)), turning(), proc(256, do(api.OpVar, 0), do(api.OpReturn)), proc(0, layInt(9), do(api.OpReturn)))
	for _, p := range []int{math.MinInt, -1, 1, 3, 5, 6, 256, math.MaxInt} {
		d.changesNothing(func() {
			if n, e := d.Start(p); n != 0 || e != api.ErrArg {
				t.Errorf("Start(%d): %d, %d", p, n, e)
			}
		})
	}
	d.starts(4, 0, 2)
	d.ready(1, 2, 3)
	d.going(1, 2, 3)
	d.roots(null(), null(), null())
	d.goes(1, ends(number(9)))
	d.goes(2, allocs(0, number(5), null()))
	d.goes(3, breath())
	d.over(1, number(9), api.OK)
}

// TestNinthThread: eight in all of a world's life, those that have ended among them; a wrong procedure is told first.
func TestNinthThread(t *testing.T) {
	d := newDesk(t, 4, 0, 0, consing(), proc(1, do(api.OpVar, 0), do(api.OpReturn)))
	d.starts(0, 0, 0, 0)
	d.Settle(100)
	d.starts(0, 0, 0, 0)
	for range 2 {
		d.changesNothing(func() {
			if n, e := d.Start(0); n != 0 || e != api.ErrLocksMuch {
				t.Error(n, e)
			}
			for _, p := range []int{-1, 1, 2} {
				if n, e := d.Start(p); n != 0 || e != api.ErrArg {
					t.Error(p, n, e)
				}
			}
		})
		d.Settle(100)
	}
	if d.Threads() != 8 {
		t.Error(d.Threads())
	}
}

// TestStartInEachPhase: who is begun from outside counts as scanned, whatever the collector is at; the cycle behind that asks
// for its roots, too.
func TestStartInEachPhase(t *testing.T) {
	phases := []struct {
		steps int
		phase api.Phase
	}{{0, api.PhaseIdle}, {1, api.PhaseRoots}, {2, api.PhaseRoots}, {3, api.PhaseRoots}, {4, api.PhaseMark}, {5, api.PhaseSweep}, {7, api.PhaseSweep}, {9, api.PhaseSweep}, {10, api.PhaseIdle}}
	for _, row := range phases {
		// One pair, which a global has; a thread that has ended.
		d := newDesk(t, 4, 0, 1, proc(0, some(pairInto(0, 1), one(layNil(), do(api.OpReturn)))...), keeping(2))
		d.starts(0)
		d.Settle(100)
		d.collects()
		for range row.steps {
			d.pick(0)
		}
		begun := min(1, row.steps)
		d.phase(row.phase, begun)
		d.starts(1)
		d.phase(row.phase, begun)
		v := d.View()
		if !v.Lanes[1].Scanned || v.Lanes[1].Ended || !slices.Equal(v.Lanes[1].Roots, []api.Word{null()}) {
			t.Errorf("%+v: %+v", row, v.Lanes[1])
		}
		if row.steps == 0 || row.steps == 10 {
			if row.steps == 10 {
				d.collects()
			}
			d.skips(0, api.StepBegin)
			if d.View().Lanes[1].Scanned {
				t.Error("it is scanned when a cycle begins")
			}
			d.skips(0, api.StepRoot, api.StepScanThread)
			d.goes(0, of(api.StepAsk, 2))
			continue
		}
		for range 10 - row.steps {
			if e := d.pick(0); e.What == api.StepAsk || e.What == api.StepScanThread && e.Other == 2 {
				t.Errorf("%+v: %+v", row, e)
			}
		}
		d.phase(api.PhaseIdle, 1)
	}
}

// TestCodeIsCopied: what is handed in is neither changed nor kept.
func TestCodeIsCopied(t *testing.T) {
	c := coded(2, consing(), keeping(3))
	again := coded(2, consing(), keeping(3))
	w, _ := world.New(api.Config{Cells: 4}, c)
	w.Start(0)
	spoilCode(c)
	w.Start(0)
	w.Start(1)
	d := desk{t, w}
	d.goes(1, allocs(0, number(5), null()))
	d.goes(2, allocs(1, number(5), null()))
	d.goes(1, loads(0, 0, number(5)))
	d.goes(3, allocs(2, number(3), null()))
	d.goes(1, ends(number(5)))
	d.globals(nothing(), nothing())
	c = coded(2, consing(), keeping(3))
	w, _ = world.New(api.Config{Cells: 4}, c)
	w.Start(0)
	w.Settle(10)
	if !code.Same(c, again) {
		t.Error("the code was changed")
	}
}

// spoilCode changes all of a code.
func spoilCode(c api.Code) {
	for i := range c.Consts {
		c.Consts[i] = number(77)
	}
	for i := range c.Globals {
		c.Globals[i] = "spoilt"
	}
	for i := range c.Procs {
		for at := range c.Procs[i].Code {
			c.Procs[i].Code[at] = do(api.OpYield)
		}
		c.Procs[i] = api.Proc{Params: 5}
	}
}
