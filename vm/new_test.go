package vm_test

import (
	"math"
	"slices"
	"testing"

	"dapple/api"
	"dapple/code"
	"dapple/vm"
	"dapple/words"
)

// answers is the code of a procedure that gives one of the pool back.
func answers(w api.Word) api.Proc { return proc(0, lay(w), do(api.OpReturn)) }

// refusedNew sees that New gives no thread, and tells this.
func (d desk) refusedNew(c api.Code, proc int, want api.Errno) {
	d.Helper()
	if x, e := vm.New(c, proc, nilWord()); x != nil || e != want {
		d.Errorf("New: %v, %d, not %d", x, e, want)
	}
}

// TestNewOfCodeThatMayNotBe: nothing, and code.Check's error, whatever the procedure is.
func TestNewOfCodeThatMayNotBe(t *testing.T) {
	d := desk{t}
	many := coded(slices.Repeat([]api.Proc{answers(nilWord())}, 257)...)
	long := coded(proc(0, append(slices.Repeat([]api.Instr{do(api.OpJump, 0)}, 4096), do(api.OpJump, 0))...))
	ref := coded(answers(nilWord()))
	ref.Consts[9] = words.Ref(1)
	twice := coded(answers(nilWord()))
	twice.Globals[1] = "a"
	for _, c := range []api.Code{
		{}, many, long, ref, twice,
		coded(),
		coded(proc(-1, do(api.OpJump, 0))),
		coded(proc(0)),
		coded(proc(0, do(api.OpPop), do(api.OpJump, 0))),
		coded(proc(0, do(api.OpConst, 0), do(api.OpJump, 0))),
		coded(proc(0, do(api.OpConst, 2000), do(api.OpReturn))),
		coded(proc(0, do(api.OpPrim, 23), do(api.OpReturn))),
		coded(proc(0, do(api.OpYield+1), do(api.OpReturn))),
		coded(answers(nilWord()), proc(0, do(api.OpYield))),
	} {
		want, _, _ := code.Check(c)
		if want == api.OK {
			t.Fatal("it may be")
		}
		for _, proc := range []int{math.MinInt, -1, 0, 1, 300, math.MaxInt} {
			d.refusedNew(c, proc, want)
		}
	}
}

// TestNewOfProcedures: the number of one that there is, and takes no arguments.
func TestNewOfProcedures(t *testing.T) {
	d := desk{t}
	c := coded(answers(number(1)), proc(1, do(api.OpJump, 0)), answers(number(2)), proc(256, do(api.OpJump, 0)), answers(number(3)))
	for _, n := range []int{math.MinInt, -1, 1, 3, 5, 6, math.MaxInt} {
		d.refusedNew(c, n, api.ErrArg)
	}
	for n, w := range map[int]int64{0: 1, 2: 2, 4: 3} {
		x, e := vm.New(c, n, nilWord())
		if e != api.OK {
			t.Fatal(n, e)
		}
		d.roots(x, nilWord())
		d.refused(x, api.ErrArg)
		d.ends(x, roomy(), number(w), api.OK)
	}
	most := coded(slices.Repeat([]api.Proc{answers(number(7))}, 256)...)
	x, e := vm.New(most, 255, nilWord())
	if e != api.OK {
		t.Fatal(e)
	}
	d.ends(x, roomy(), number(7), api.OK)
	d.refusedNew(most, 256, api.ErrArg)
}

// TestNewOfEnvironments: any word, also what is none.
func TestNewOfEnvironments(t *testing.T) {
	d := desk{t}
	for _, env := range append(pool(), 0, 17, math.MaxUint64, pairRef(), boxRef(), closureRef(), freeRef(), words.Ref(math.MaxInt32)) {
		x := d.thread(env, proc(0, do(api.OpClosure, 0), do(api.OpReturn)))
		d.roots(x, env)
		d.steps(x, &fixed{number: 5, yes: true}, allocs(5, number(0), env))
		d.roots(x, words.Ref(5), env)
	}
}

// TestNewCopies: what is done to code behind New changes no thread, and no thread changes it.
func TestNewCopies(t *testing.T) {
	d := desk{t}
	make := func() api.Code {
		return coded(proc(0, do(api.OpClosure, 1), lay(number(7)), do(api.OpCall, 1), do(api.OpReturn)), proc(1, do(api.OpVar, 0), lay(number(1)), prim(api.PrimPlus), do(api.OpReturn)))
	}
	want := []api.Event{allocs(0, number(1), nilWord()), loads(0, 0, number(1)), loads(0, 1, nilWord()), allocs(1, number(7), nilWord()), loads(1, 0, number(7)), {What: api.StepEnd, New: number(8)}}
	for steps := range want {
		c := make()
		x, _ := vm.New(c, 0, nilWord())
		h := roomy()
		d.steps(x, h, want[:steps]...)
		for i := range c.Consts {
			c.Consts[i] = nilWord()
		}
		for p := range c.Procs {
			for i := range c.Procs[p].Code {
				c.Procs[p].Code[i] = api.Instr{Op: 99, A: -1}
			}
			c.Procs[p] = api.Proc{Params: 9}
		}
		d.steps(x, h, want[steps:]...)
		d.over(x, number(8), api.OK)
	}
	c := make()
	x, _ := vm.New(c, 0, nilWord())
	d.steps(x, roomy(), want...)
	if !code.Same(c, make()) {
		t.Error("the code is another one")
	}
}
