package free_test

import (
	"math"
	"slices"
	"testing"

	"dapple/api"
	"dapple/code"
)

// threeProcs has a procedure without arguments, one with one, and one without again.
const threeProcs = "const int 5\nproc 0\n const 0\n return\nproc 1\n var 0\n return\nproc 0\n const 0\n return\n"

// TestConfigs: Cells 4 to 4096, Locks 0 to 8; which is told ahead of what is wrong with the code.
func TestConfigs(t *testing.T) {
	good := parsed(t, threeProcs)
	for _, cells := range []int{math.MinInt, -1, 0, 3, 4, 5, 4095, 4096, 4097, math.MaxInt} {
		for _, locks := range []int{math.MinInt, -1, 0, 1, 8, 9, math.MaxInt} {
			c := api.Config{Cells: cells, Locks: locks}
			if cells < 4 || cells > 4096 || locks < 0 || locks > 8 {
				fails(t, api.ErrArg, c, good, 0)
				fails(t, api.ErrArg, c, api.Code{}, 0)
				continue
			}
			fails(t, api.ErrCodeForm, c, api.Code{}, 0)
			ends(t, comes(t, cells, locks, good, 0), word(number(5)))
		}
	}
}

// TestAllCellsAndLocks: of so many cells each can be had, of so many locks each, and no more.
func TestAllCellsAndLocks(t *testing.T) {
	many := compiled(t, "(define l '()) (while #t (set! l (cons 1 l)))")
	for _, cells := range []int{4, 5, 4096} {
		o := comes(t, cells, 0, many, 0)
		ends(t, o, fault(api.ErrNoCells))
		if used(o.Heap) != cells {
			t.Error(cells, used(o.Heap))
		}
	}
	each := compiled(t, "(define i 0) (define f (lambda () (lock i) (set! i (+ i 1)) (f))) (f)")
	for locks := range 9 {
		o := comes(t, 20, locks, each, 0)
		ends(t, o, fault(api.ErrLocksNone))
		if o.Globals[0] != number(int64(locks)) {
			t.Errorf("%d locks: %v", locks, o.Globals)
		}
	}
}

// TestHowManyProcs: 1 to 8.
func TestHowManyProcs(t *testing.T) {
	good := parsed(t, threeProcs)
	for n := range 20 {
		procs := make([]int, n)
		if n < 1 || n > 8 {
			fails(t, api.ErrArg, api.Config{Cells: 4}, good, procs...)
			fails(t, api.ErrArg, api.Config{Cells: 4}, api.Code{}, procs...)
			continue
		}
		fails(t, api.ErrCodeForm, api.Config{Cells: 4}, api.Code{}, procs...)
		if o := comes(t, 4, 0, good, procs...); o.Threads != n || o.Steps != n {
			t.Error(n, o.Threads, o.Steps)
		}
	}
	fails(t, api.ErrArg, api.Config{Cells: 4}, good, []int{}...)
}

// TestWhichProcs: a number that is no procedure's, or of one that takes arguments, wherever it stands.
func TestWhichProcs(t *testing.T) {
	good := parsed(t, threeProcs)
	for _, p := range []int{math.MinInt, -1, 0, 1, 2, 3, 4, 256, math.MaxInt} {
		for at := range 8 {
			procs := slices.Repeat([]int{2}, 8)
			procs[at] = p
			for _, l := range [][]int{procs, procs[at:], procs[:at+1]} {
				if p != 0 && p != 2 {
					fails(t, api.ErrArg, api.Config{Cells: 4}, good, l...)
					continue
				}
				comes(t, 4, 0, good, l...)
			}
		}
	}
}

// wrongCodes are codes that may not be.
func wrongCodes(t *testing.T) []api.Code {
	change := func(f func(c *api.Code)) api.Code {
		c := parsed(t, threeProcs)
		f(&c)
		return c
	}
	return []api.Code{
		{},
		change(func(c *api.Code) { c.Procs = nil }),
		change(func(c *api.Code) { c.Procs = slices.Repeat(c.Procs, 86) }),
		change(func(c *api.Code) { c.Consts = slices.Repeat(c.Consts, 1025) }),
		change(func(c *api.Code) { c.Consts[0] = 0 }),
		change(func(c *api.Code) { c.Consts[0] = tagged(api.TagRef, 0) }),
		change(func(c *api.Code) { c.Globals = []string{"x", "x"} }),
		change(func(c *api.Code) { c.Globals = make([]string, 65) }),
		change(func(c *api.Code) { c.Globals = []string{"7"} }),
		change(func(c *api.Code) { c.Procs[2].Params = -1 }),
		change(func(c *api.Code) { c.Procs[0].Params = 257 }),
		change(func(c *api.Code) { c.Procs[0].Code[0].A = 2 }),
		change(func(c *api.Code) { c.Procs[0].Code[0].Op = 0 }),
		change(func(c *api.Code) { c.Procs[1].Code = c.Procs[1].Code[:1] }),
		change(func(c *api.Code) { c.Procs[2].Code[0] = api.Instr{Op: api.OpPop} }),
		change(func(c *api.Code) { c.Procs[2].Code = slices.Repeat(c.Procs[2].Code, 2049) }),
	}
}

// TestCodeThatMayNotBe: Check's error, behind what is wrong with the numbers of cells, locks and procs, and ahead of what is wrong
// with one of procs.
func TestCodeThatMayNotBe(t *testing.T) {
	for i, c := range wrongCodes(t) {
		want, _, _ := code.Check(c)
		if want == api.OK {
			t.Fatal(i, "may be")
		}
		for _, procs := range [][]int{{0}, {0, 0, 0, 0, 0, 0, 0, 0}, {1}, {-1}, {0, 1000}, {2, 2, math.MinInt}} {
			fails(t, want, api.Config{Cells: 4}, c, procs...)
			fails(t, want, api.Config{Cells: 4096, Locks: 8}, c, procs...)
			fails(t, api.ErrArg, api.Config{Cells: 4097}, c, procs...)
			fails(t, api.ErrArg, api.Config{Cells: 4, Locks: -1}, c, procs...)
		}
		fails(t, api.ErrArg, api.Config{Cells: 4}, c)
		fails(t, api.ErrArg, api.Config{Cells: 4}, c, make([]int, 9)...)
	}
}

// TestGreatestCode: what Check just takes is run.
func TestGreatestCode(t *testing.T) {
	c := api.Code{Consts: slices.Repeat([]api.Word{number(7)}, api.MaxConsts)}
	for i := range api.MaxGlobals {
		c.Globals = append(c.Globals, "g"+string(rune('a'+i/26))+string(rune('a'+i%26)))
	}
	var long []api.Instr
	for range api.MaxCode/2 - 1 {
		long = append(long, api.Instr{Op: api.OpConst}, api.Instr{Op: api.OpPop})
	}
	long = append(long, api.Instr{Op: api.OpConst, A: api.MaxConsts - 1}, api.Instr{Op: api.OpReturn})
	for range api.MaxProcs - 1 {
		c.Procs = append(c.Procs, api.Proc{Code: long[len(long)-2:]})
	}
	c.Procs = append(c.Procs, api.Proc{Code: long})
	o := comes(t, 4096, 8, c, 255, 0, 254, 255)
	ends(t, o, word(number(7)), word(number(7)), word(number(7)), word(number(7)))
	// A long one has more instructions without an access than a breath is.
	if o.Steps != 5+1+1+5 {
		t.Error(o.Steps)
	}
}
