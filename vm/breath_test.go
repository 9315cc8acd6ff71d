package vm_test

import (
	"slices"
	"testing"

	"dapple/api"
	"dapple/vm"
)

// jumps are so many instructions, each of which goes to the next one; at is the place of the first.
func jumps(n, at int) []api.Instr {
	var l []api.Instr
	for i := range n {
		l = append(l, do(api.OpJump, at+i+1))
	}
	return l
}

// breaths is how many there are ahead of what comes behind so many instructions without an access.
func (d desk) breaths(x *vm.Thread, h *heap, n int) {
	d.Helper()
	for range n {
		if got := x.Step(h); !same(got, breath()) {
			d.Errorf("%+v, not a breath", got)
		}
	}
}

// TestBreathAheadOfAnAccess: an access that is the thousandth instruction is one; behind a thousand a breath comes first.
func TestBreathAheadOfAnAccess(t *testing.T) {
	d := desk{t}
	for _, n := range []int{0, 1, 998, 999, 1000, 1001, 1998, 1999, 2000, 2001, 3999, 4000} {
		x, h := d.main(append(jumps(n, 0), do(api.OpGlobal, 0), do(api.OpReturn))...), roomy(number(3))
		d.breaths(x, h, n/1000)
		d.steps(x, h, finds(0, number(3)))
		d.ends(x, h, number(3), api.OK)
	}
}

// TestBreathBehindAnAccess: an access begins the count anew, also one in the midst of an instruction.
func TestBreathBehindAnAccess(t *testing.T) {
	d := desk{t}
	for _, n := range []int{0, 997, 998, 999, 1000, 1001, 1999, 2000} {
		l := append([]api.Instr{do(api.OpVar, 2)}, jumps(n, 1)...)
		h, env := chain(3)
		h.globals = []api.Word{number(4)}
		x := d.thread(env, proc(0, append(l, do(api.OpGlobal, 0), do(api.OpReturn))...))
		d.skips(x, h, api.StepLoad, api.StepLoad, api.StepLoad)
		d.breaths(x, h, n/1000)
		d.steps(x, h, finds(0, number(4)))
		d.ends(x, h, number(4), api.OK)
	}
}

// TestBreathAndEnd: an end that is the thousandth instruction is one, by a return and by an error.
func TestBreathAndEnd(t *testing.T) {
	d := desk{t}
	for _, n := range []int{0, 997, 998, 999, 1000, 1998, 1999} {
		// The constant and the return, or what is wrong, are two instructions more.
		x, h := d.main(append(jumps(n, 0), lay(number(7)), do(api.OpReturn))...), roomy()
		d.breaths(x, h, (n+1)/1000)
		d.ends(x, h, number(7), api.OK)
		for e, i := range map[api.Errno]api.Instr{api.ErrVMRaised: prim(api.PrimError), api.ErrWordKind: do(api.OpJoin), api.ErrVMCall: do(api.OpCall, 0)} {
			x = d.main(append(jumps(n, 0), lay(nilWord()), i, do(api.OpReturn))...)
			d.breaths(x, h, (n+1)/1000)
			d.ends(x, h, 0, e)
		}
	}
}

// TestYield: a breath, wherever it stands; one that is the thousandth instruction is one breath.
func TestYield(t *testing.T) {
	d := desk{t}
	for _, n := range []int{0, 1, 998, 999, 1000, 1001, 1999, 2000} {
		l := append([]api.Instr{lay(number(2))}, jumps(n, 1)...)
		x, h := d.main(append(l, do(api.OpYield), do(api.OpReturn))...), roomy()
		d.breaths(x, h, (n+1)/1000)
		d.roots(x, append(laidTwo(n), nilWord())...)
		d.steps(x, h, breath())
		d.roots(x, number(2), nothing(), nilWord())
		d.ends(x, h, nothing(), api.OK)
	}
}

// laidTwo is the stack of TestYield's thread ahead of its yield: nothing, if that is within its first step.
func laidTwo(n int) []api.Word {
	if n+1 < 1000 {
		return nil
	}
	return []api.Word{number(2)}
}

// TestEachInstructionCounts: whatever makes no access is one of the thousand.
func TestEachInstructionCounts(t *testing.T) {
	d := desk{t}
	for _, l := range [][]api.Instr{
		{lay(number(1)), do(api.OpPop)},
		{lay(sole(api.TagTrue)), do(api.OpBranch, 2)},
		{lay(sole(api.TagFalse)), do(api.OpBranch, 2)},
		{lay(number(1)), lay(number(1)), prim(api.PrimEq), do(api.OpPop)},
		{lay(number(1)), prim(api.PrimNot), prim(api.PrimIsInt), prim(api.PrimIsNull), do(api.OpPop)},
		{lay(number(1)), prim(api.PrimIsPair), do(api.OpPop), do(api.OpJump, 4)},
		{lay(number(1)), lay(number(2)), prim(api.PrimPlus), lay(number(2)), prim(api.PrimTimes), lay(number(1)), prim(api.PrimMinus), do(api.OpPop)},
		{lay(number(7)), lay(number(2)), prim(api.PrimQuotient), lay(number(2)), prim(api.PrimRemainder), lay(number(1)), prim(api.PrimLess), do(api.OpPop)},
	} {
		size := len(l)
		var all []api.Instr
		for i := range 1000 / size {
			for _, in := range l {
				if in.Op == api.OpBranch || in.Op == api.OpJump {
					in.A += i * size
				}
				all = append(all, in)
			}
		}
		for _, more := range []int{0, 1, 2, 3, 4, 5, 6, 7} {
			n := len(all) + more
			code := append(slices.Clone(all), jumps(more, len(all))...)
			x, h := d.main(append(code, do(api.OpGlobal, 0), do(api.OpReturn))...), roomy(number(3))
			d.breaths(x, h, n/1000)
			d.steps(x, h, finds(0, number(3)))
		}
	}
}

// TestReturnCounts: a return to another frame is one of the thousand.
func TestReturnCounts(t *testing.T) {
	d := desk{t}
	for _, n := range []int{0, 996, 997, 998, 999, 1000} {
		l := append([]api.Instr{do(api.OpGlobal, 0), do(api.OpCall, 0)}, jumps(n, 2)...)
		x := d.thread(nilWord(), proc(0, append(l, do(api.OpSetGlobal, 1), do(api.OpReturn))...), answers(number(5)))
		h := envHeap(number(1))
		h.globals = append(h.globals, number(3))
		d.skips(x, h, api.StepGlobal, api.StepLoad, api.StepLoad)
		// The constant and the return are two more.
		d.breaths(x, h, (n+2)/1000)
		d.steps(x, h, api.Event{What: api.StepSetGlobal, Other: 1, Old: number(3), New: number(5)})
	}
}

// TestBreathKeepsWhereItIs: a loop is gone on with behind a breath.
func TestBreathKeepsWhereItIs(t *testing.T) {
	d := desk{t}
	// The loop goes through seven instructions a round: it counts down from 200.
	x, h := d.main(lay(number(200)), lay(number(1)), prim(api.PrimMinus), do(api.OpYield), do(api.OpPop), lay(sole(api.TagTrue)), do(api.OpBranch, 8), do(api.OpJump, 1), do(api.OpReturn)), roomy()
	for i := range 150 {
		d.steps(x, h, breath())
		d.roots(x, number(int64(199-i)), nothing(), nilWord())
	}
	d.goesOn(x)
	// Without a yield the breath comes where it comes: behind the constant 142 rounds of seven, and five more.
	x = d.main(lay(number(299)), lay(number(1)), prim(api.PrimMinus), do(api.OpJump, 4), lay(sole(api.TagFalse)), do(api.OpJump, 6), do(api.OpBranch, 8), do(api.OpReturn), do(api.OpJump, 1))
	d.steps(x, h, breath())
	d.roots(x, number(299-143), sole(api.TagFalse), nilWord())
	d.steps(x, h, breath())
	d.roots(x, number(299-286), sole(api.TagFalse), nilWord())
}
