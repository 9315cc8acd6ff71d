package model_test

import (
	"math"
	"slices"
	"testing"

	"dapple/api"
	"dapple/code"
	"dapple/model"
)

// refusesNew sees that New tells that error, and nothing.
func refusesNew(t *testing.T, locks int, c api.Code, want api.Errno) {
	t.Helper()
	if m, e := model.New(locks, c); m != nil || e != want {
		t.Errorf("New(%d): %v, %d, not %d", locks, m, e, want)
	}
}

// TestLockCounts: 0 to 8; what is wrong with the code is told behind that.
func TestLockCounts(t *testing.T) {
	c := coded(1, proc(0, layInt(7), do(api.OpLock), do(api.OpReturn)))
	for _, locks := range []int{math.MinInt, -2, -1, 0, 1, 7, 8, 9, 10, 64, math.MaxInt} {
		if locks < 0 || locks > 8 {
			refusesNew(t, locks, c, api.ErrArg)
			refusesNew(t, locks, api.Code{}, api.ErrArg)
			continue
		}
		refusesNew(t, locks, api.Code{}, api.ErrCodeForm)
		m, e := model.New(locks, c)
		if m == nil || e != api.OK {
			t.Fatal(locks, e)
		}
		d := desk{t, m}
		d.starts(0)
		if locks == 8 {
			d.goes(1, of(api.StepLock, 7))
		} else {
			d.goes(1, api.Event{What: api.StepLock, Other: 7, Err: api.ErrLocksNone})
		}
	}
}

// TestNewModel: what one has at first, of each count of globals.
func TestNewModel(t *testing.T) {
	for _, globals := range []int{0, 1, 2, 63, 64} {
		d := newDesk(t, 0, globals, consing())
		d.heap()
		d.globals(slices.Repeat([]api.Word{nothing()}, globals)...)
		for _, n := range []int{math.MinInt, -1, 0, 1, 8, 9, math.MaxInt} {
			if x, e := d.m.Ended(n); x != (api.Ended{}) || e != api.ErrLocksNone {
				t.Error(n, x, e)
			}
			d.stands(n)
			d.refusesNot(n)
		}
	}
}

// TestCodeThatMayNotBe: Check's error.
func TestCodeThatMayNotBe(t *testing.T) {
	change := func(f func(c *api.Code)) api.Code {
		c := coded(2, consing())
		f(&c)
		return c
	}
	for i, c := range []api.Code{
		{},
		change(func(c *api.Code) { c.Procs = nil }),
		change(func(c *api.Code) { c.Procs = slices.Repeat(c.Procs, 257) }),
		change(func(c *api.Code) { c.Consts = slices.Repeat(c.Consts, 100) }),
		change(func(c *api.Code) { c.Globals = coded(65, consing()).Globals }),
		change(func(c *api.Code) { c.Consts[0] = ref(0) }),
		change(func(c *api.Code) { c.Consts[0] = 0 }),
		change(func(c *api.Code) { c.Globals[1] = c.Globals[0] }),
		change(func(c *api.Code) { c.Globals[1] = "a b" }),
		change(func(c *api.Code) { c.Procs[0].Params = -1 }),
		change(func(c *api.Code) { c.Procs[0].Code[0].A = 1000 }),
		change(func(c *api.Code) { c.Procs[0].Code = c.Procs[0].Code[:4] }),
		change(func(c *api.Code) { c.Procs[0].Code[1] = do(api.OpPop) }),
		change(func(c *api.Code) { c.Procs[0].Code[1].Op = 0 }),
		change(func(c *api.Code) {
			c.Procs = append(c.Procs, proc(0, slices.Repeat(one(do(api.OpJump, 0)), 4097)...))
		}),
	} {
		want, _, _ := code.Check(c)
		if want == api.OK {
			t.Fatal(i, "may be")
		}
		refusesNew(t, 0, c, want)
		refusesNew(t, 8, c, want)
		refusesNew(t, -1, c, api.ErrArg)
		refusesNew(t, 9, c, api.ErrArg)
	}
}

// TestStarts: of which procedures.
func TestStarts(t *testing.T) {
	d := newDesk(t, 0, 0, consing(), proc(1, do(api.OpVar, 0), do(api.OpReturn)), turning(), proc(256, do(api.OpVar, 0), do(api.OpReturn)), proc(0, layInt(9), do(api.OpReturn)))
	for _, p := range []int{math.MinInt, -1, 1, 3, 5, 6, 256, math.MaxInt} {
		d.changesNothing(func() {
			if n, e := d.m.Start(p); n != 0 || e != api.ErrArg {
				t.Errorf("Start(%d): %d, %d", p, n, e)
			}
		})
	}
	d.starts(4, 0, 2)
	d.going(1, 2, 3)
	d.goes(1, ends(number(9)))
	d.goes(2, allocs(0, number(5), null()))
	d.goes(3, breath())
	d.over(1, number(9), api.OK)
}

// TestEnvironmentOfStarted: it is nil: no variable is there, and a closure has it.
func TestEnvironmentOfStarted(t *testing.T) {
	d := newDesk(t, 0, 0, proc(0, do(api.OpVar, 0), do(api.OpReturn)), proc(0, do(api.OpClosure, 0), do(api.OpReturn)))
	d.starts(0, 1)
	d.goes(1, fails(api.ErrVMUnset))
	d.goes(2, allocs(0, number(0), null()))
	d.heap(closure(0, null()))
}

// TestNinthThread: eight in all of a model's life, those that have ended among them; a wrong procedure is told first.
func TestNinthThread(t *testing.T) {
	d := newDesk(t, 0, 0, consing(), proc(1, do(api.OpVar, 0), do(api.OpReturn)))
	d.starts(0, 0, 0, 0)
	for n := 1; n <= 4; n++ {
		d.skips(n, api.StepAlloc, api.StepLoad, api.StepEnd)
	}
	d.starts(0, 0, 0, 0)
	for n := 5; n <= 9; n++ {
		d.changesNothing(func() {
			if n, e := d.m.Start(0); n != 0 || e != api.ErrLocksMuch {
				t.Error(n, e)
			}
			for _, p := range []int{-1, 1, 2} {
				if n, e := d.m.Start(p); n != 0 || e != api.ErrArg {
					t.Error(p, n, e)
				}
			}
		})
		if n <= 8 {
			d.skips(n, api.StepAlloc, api.StepLoad, api.StepEnd)
		}
	}
	d.stands(1, 2, 3, 4, 5, 6, 7, 8, 9)
}

// TestCodeIsCopied: what is handed in is neither changed nor kept.
func TestCodeIsCopied(t *testing.T) {
	again := coded(2, consing(), turning())
	c := coded(2, consing(), turning())
	m, _ := model.New(0, c)
	m.Start(0)
	spoilCode(c)
	m.Start(0)
	m.Start(1)
	d := desk{t, m}
	d.goes(1, allocs(0, number(5), null()))
	d.goes(2, allocs(1, number(5), null()))
	d.goes(1, loads(0, 0, number(5)))
	d.goes(3, breath())
	d.goes(1, ends(number(5)))
	d.globals(nothing(), nothing())
	c = coded(2, consing(), turning())
	m, _ = model.New(0, c)
	m.Start(0)
	m.Step(1)
	if !code.Same(c, again) {
		t.Error("the code was changed")
	}
}

// TestSpawnedCodeIsCopied: a thread that is begun by another one goes through the code as it was, too.
func TestSpawnedCodeIsCopied(t *testing.T) {
	c := coded(0, proc(0, do(api.OpClosure, 1), do(api.OpSpawn), do(api.OpReturn)), consing())
	m, _ := model.New(0, c)
	m.Start(0)
	spoilCode(c)
	d := desk{t, m}
	d.skips(1, api.StepAlloc, api.StepLoad, api.StepLoad, api.StepSpawn)
	d.goes(2, allocs(1, number(5), null()))
	d.skips(2, api.StepLoad, api.StepEnd)
}

// spoilCode changes all of a code.
func spoilCode(c api.Code) {
	for i := range c.Consts {
		c.Consts[i] = number(77)
	}
	for i := range c.Globals {
		c.Globals[i] = "spoilt"
	}
	for i := range c.Procs {
		for at := range c.Procs[i].Code {
			c.Procs[i].Code[at] = do(api.OpYield)
		}
		c.Procs[i] = api.Proc{Params: 5}
	}
}

// behind is a list with room behind it, in which something stands.
func behind[T any](l []T, x T) []T { return slices.Concat(l, []T{x, x, x})[:len(l)] }

// TestRoomBehind: what lies behind the lists of a code is neither read nor written.
func TestRoomBehind(t *testing.T) {
	c := coded(2, proc(0, some(newPair(1), one(do(api.OpSetGlobal, 1), do(api.OpClosure, 0), prim(api.PrimCons)), ret())...))
	plain, _ := model.New(1, c)
	c.Procs[0].Code = behind(c.Procs[0].Code, do(api.OpYield))
	c.Consts = behind(c.Consts, number(77))
	c.Globals = behind(c.Globals, "more")
	c.Procs = behind(c.Procs, api.Proc{Params: 77})
	m, _ := model.New(1, c)
	for _, x := range []move{{toStart, 0}, {toStart, 1}, {toStep, 1}, {toStep, 1}, {toStep, 1}, {toStep, 1}, {toStep, 1}} {
		if a, b := made(m, x), made(plain, x); !a.same(b) {
			t.Errorf("%v: %+v, not %+v", x, a, b)
		}
	}
	if s := seen(m).differs(seen(plain)); s != "" {
		t.Error(s)
	}
	if l := c.Consts[:len(c.Consts)+3]; l[len(c.Consts)] != number(77) {
		t.Error(l)
	}
	if l := c.Globals[:5]; l[2] != "more" || l[4] != "more" {
		t.Error(l)
	}
	if l := c.Procs[:4]; l[1].Params != 77 || l[3].Params != 77 {
		t.Error(l)
	}
	if l := c.Procs[0].Code; l[:len(l)+3][len(l)] != do(api.OpYield) {
		t.Error(l)
	}
}
