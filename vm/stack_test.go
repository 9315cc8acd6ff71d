package vm_test

import (
	"slices"
	"testing"

	"dapple/api"
	"dapple/vm"
	"dapple/words"
)

// outer is how many words the first frame of a high thread has on the stack.
const outer = 100

// high is a thread whose second frame has come so far that the stack has that height, and these instructions are next. Of
// its heap the cell 0 is its environment, a pair of 3 and nil, 1 the closure that it called, 2 a closure of procedure 2, which
// takes nothing, 3 one of procedure 3, which takes one argument. Its globals are 6.
func (d desk) high(height int, l ...api.Instr) (*vm.Thread, *heap) {
	d.Helper()
	below := slices.Repeat([]api.Instr{lay(number(4))}, outer)
	first := append(append(below, do(api.OpClosure, 1), do(api.OpCall, 0)), slices.Repeat([]api.Instr{do(api.OpPop)}, outer)...)
	first = append(first, lay(number(1)), do(api.OpReturn))
	// A global is laid last, so that a step ends right ahead of the instructions.
	second := append([]api.Instr{do(api.OpYield)}, slices.Repeat([]api.Instr{lay(number(5))}, height-outer-2)...)
	second = append(append(second, do(api.OpGlobal, 7)), l...)
	if op := second[len(second)-1].Op; op != api.OpReturn && op != api.OpTail {
		second = append(second, do(api.OpReturn))
	}
	h := roomy(slices.Repeat([]api.Word{number(6)}, 8)...)
	h.cells = []api.Cell{{Kind: api.KindPair, A: number(3), B: nilWord()}}
	x := d.thread(words.Ref(0), proc(0, first...), proc(0, second...), proc(0, lay(number(8)), do(api.OpReturn)), proc(1, do(api.OpVar, 0), do(api.OpReturn)))
	d.skips(x, h, api.StepAlloc, api.StepLoad, api.StepLoad, api.StepBreath, api.StepGlobal)
	if got := len(x.Roots()) - 2; got != height {
		d.Fatalf("a height of %d, not %d", got, height)
	}
	h.cells = append(h.cells, api.Cell{Kind: api.KindClosure, A: number(2), B: nilWord()}, api.Cell{Kind: api.KindClosure, A: number(3), B: nilWord()})
	return x, h
}

// TestPushOnFull: what pushes a word does so at 255; at 256 it ends the thread, ahead of any access.
func TestPushOnFull(t *testing.T) {
	d := desk{t}
	env, six := words.Ref(0), number(6)
	for _, row := range []struct {
		i    api.Instr
		want api.Event
		w    api.Word
	}{
		{do(api.OpConst, 3), api.Event{}, number(2)},
		{do(api.OpYield), breath(), nothing()},
		{do(api.OpVar, 0), loads(0, 0, number(3)), number(3)},
		{do(api.OpGlobal, 2), finds(2, six), six},
		{do(api.OpClosure, 2), allocs(4, number(2), env), words.Ref(4)},
	} {
		for height := 250; height < 256; height++ {
			x, h := d.high(height, row.i)
			if row.want.What != 0 {
				d.steps(x, h, row.want)
				l := x.Roots()
				if len(l) != height+3 || l[height] != row.w {
					t.Errorf("%v: roots %v", row.i, l)
				}
			}
			d.endsBehindReturn(x, h)
		}
		x, h := d.high(256, row.i)
		d.ends(x, h, 0, api.ErrVMStack)
	}
}

// endsBehindReturn goes a step, with which both frames of a high thread end.
func (d desk) endsBehindReturn(x *vm.Thread, h *heap) {
	d.Helper()
	d.ends(x, h, number(1), api.OK)
}

// TestTwoPushesOnFull: constants up to the bound, and one more.
func TestTwoPushesOnFull(t *testing.T) {
	d := desk{t}
	for more := range 8 {
		x, h := d.high(252, lays(make([]int64, more)...)...)
		if more <= 4 {
			d.endsBehindReturn(x, h)
		} else {
			d.ends(x, h, 0, api.ErrVMStack)
		}
	}
}

// TestSetVarOnFull: what is stored stands on the stack, and the environment above it.
func TestSetVarOnFull(t *testing.T) {
	d := desk{t}
	x, h := d.high(255, do(api.OpSetVar, 0))
	d.steps(x, h, api.Event{What: api.StepStore, Cell: 0, Old: number(3), New: number(6)})
	d.endsBehindReturn(x, h)
	for _, a := range []int{0, 1, 7} {
		x, h = d.high(256, do(api.OpSetVar, a))
		d.ends(x, h, 0, api.ErrVMStack)
	}
}

// TestNothingIsPushedOnFull: what takes as much as it puts goes on at 256.
func TestNothingIsPushedOnFull(t *testing.T) {
	d := desk{t}
	for _, row := range []struct {
		i    []api.Instr
		want []api.Event
	}{
		{[]api.Instr{do(api.OpSetGlobal, 3)}, []api.Event{{What: api.StepSetGlobal, Other: 3, Old: number(6), New: number(6)}}},
		{[]api.Instr{do(api.OpPop), lay(number(2))}, nil},
		{[]api.Instr{do(api.OpPop), do(api.OpYield)}, []api.Event{breath()}},
		{[]api.Instr{do(api.OpJoin)}, []api.Event{{What: api.StepJoin, Other: 6, New: number(5)}}},
		{[]api.Instr{do(api.OpLock)}, []api.Event{{What: api.StepLock, Other: 6}}},
		{[]api.Instr{do(api.OpUnlock)}, []api.Event{{What: api.StepUnlock, Other: 6}}},
		{[]api.Instr{prim(api.PrimBox)}, []api.Event{allocs(4, number(6), nilWord())}},
		{[]api.Instr{prim(api.PrimNot)}, nil},
		{[]api.Instr{prim(api.PrimCons)}, []api.Event{allocs(4, number(5), number(6))}},
		{[]api.Instr{prim(api.PrimPlus)}, nil},
	} {
		x, h := d.high(256, row.i...)
		d.steps(x, h, row.want...)
		d.endsBehindReturn(x, h)
	}
}

// TestCallOnFull: the environment is pushed with the second load, so that the bound is looked at ahead of that one, behind
// all else.
func TestCallOnFull(t *testing.T) {
	d := desk{t}
	one := func(height int, l ...api.Instr) (*vm.Thread, *heap) {
		x, h := d.high(height-len(l)+1, l...)
		h.globals[0], h.globals[1] = words.Ref(2), words.Ref(3)
		d.skips(x, h, api.StepGlobal)
		return x, h
	}
	none := []api.Instr{do(api.OpGlobal, 0)}
	with := []api.Instr{do(api.OpGlobal, 1), lay(number(7))}
	for _, op := range []api.Op{api.OpCall, api.OpTail} {
		x, h := one(255, append(slices.Clone(none), do(op, 0))...)
		d.steps(x, h, loads(2, 0, number(2)), loads(2, 1, nilWord()))
		d.endsBehindReturn(x, h)
		x, h = one(256, append(slices.Clone(none), do(op, 0))...)
		d.steps(x, h, loads(2, 0, number(2)))
		d.ends(x, h, 0, api.ErrVMStack)
		x, h = one(255, append(slices.Clone(with), do(op, 1))...)
		d.steps(x, h, loads(3, 0, number(3)), loads(3, 1, nilWord()), allocs(4, number(7), nilWord()), loads(4, 0, number(7)))
		d.endsBehindReturn(x, h)
		x, h = one(256, append(slices.Clone(with), do(op, 1))...)
		d.steps(x, h, loads(3, 0, number(3)))
		d.ends(x, h, 0, api.ErrVMStack)
		// Which error comes first.
		x, h = one(256, append(slices.Clone(with), do(op, 0))...)
		d.ends(x, h, 0, api.ErrVMCall)
		x, h = one(256, do(api.OpGlobal, 1), do(op, 0))
		d.steps(x, h, loads(3, 0, number(3)))
		d.ends(x, h, 0, api.ErrVMArgs)
		x, h = one(256, do(api.OpGlobal, 1), do(op, 0))
		h.cells[3].A = number(4)
		d.steps(x, h, loads(3, 0, number(4)))
		d.ends(x, h, 0, api.ErrVMCall)
	}
	x, h := one(255, do(api.OpGlobal, 0), do(api.OpSpawn))
	d.steps(x, h, loads(2, 0, number(2)), loads(2, 1, nilWord()), api.Event{What: api.StepSpawn, Other: 2, New: words.Ref(2)})
	d.endsBehindReturn(x, h)
	x, h = one(256, do(api.OpGlobal, 0), do(api.OpSpawn))
	d.steps(x, h, loads(2, 0, number(2)))
	d.ends(x, h, 0, api.ErrVMStack)
	x, h = one(256, do(api.OpGlobal, 1), do(api.OpSpawn))
	d.steps(x, h, loads(3, 0, number(3)))
	d.ends(x, h, 0, api.ErrVMArgs)
}

// TestWhichErrorOnFull: the bound is looked at ahead of the access whose word would be pushed, whatever that would tell; and
// behind what the instruction asks of the words that stand there.
func TestWhichErrorOnFull(t *testing.T) {
	d := desk{t}
	x, h := d.high(256, do(api.OpGlobal, 2))
	h.globals[2] = nothing()
	d.ends(x, h, 0, api.ErrVMStack)
	x, h = d.high(256, do(api.OpClosure, 2))
	h.most = 0
	d.ends(x, h, 0, api.ErrVMStack)
	x, h = d.high(256, do(api.OpVar, 5))
	h.cells[0].Kind = api.KindBox
	d.ends(x, h, 0, api.ErrVMStack)
	x, h = d.high(255, do(api.OpVar, 5))
	h.cells[0].Kind = api.KindBox
	d.ends(x, h, 0, api.ErrVMUnset)
	for _, i := range []api.Instr{prim(api.PrimCar), prim(api.PrimUnbox)} {
		x, h = d.high(256, i)
		d.ends(x, h, 0, api.ErrWordKind)
	}
	x, h = d.high(256, prim(api.PrimError))
	d.ends(x, h, 0, api.ErrVMRaised)
	x, h = d.high(256, lay(nilWord()), do(api.OpJoin))
	d.ends(x, h, 0, api.ErrVMStack)
}

// TestOneFrameHasRoom: as much as one frame can have on the stack, which the bound allows.
func TestOneFrameHasRoom(t *testing.T) {
	d := desk{t}
	h := roomy()
	h.cells = []api.Cell{{Kind: api.KindPair, A: number(3), B: nilWord()}}
	l := append(lays(make([]int64, 254)...), do(api.OpVar, 0), do(api.OpReturn))
	x := d.thread(words.Ref(0), proc(0, l...))
	d.steps(x, h, loads(0, 0, number(3)))
	d.roots(x, append(slices.Repeat([]api.Word{number(0)}, 254), number(3), words.Ref(0))...)
	d.ends(x, h, number(3), api.OK)
	l = append(lays(make([]int64, 255)...), do(api.OpSetVar, 0), do(api.OpReturn))
	x = d.thread(words.Ref(0), proc(0, l...))
	d.steps(x, h, api.Event{What: api.StepStore, Old: number(3), New: number(0)})
	d.ends(x, h, nothing(), api.OK)
}
