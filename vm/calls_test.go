package vm_test

import (
	"slices"
	"testing"

	"dapple/api"
	"dapple/vm"
	"dapple/words"
)

// deep is a thread with so many frames, in the last of which these instructions are next: each procedure calls the next one,
// the last one is gone through behind them and answers 8.
func (d desk) deep(frames int, l ...api.Instr) (*vm.Thread, *heap) {
	d.Helper()
	var procs []api.Proc
	for i := range frames - 1 {
		procs = append(procs, proc(0, do(api.OpClosure, i+1), do(api.OpCall, 0), do(api.OpReturn)))
	}
	if op := l[len(l)-1].Op; op != api.OpReturn && op != api.OpTail {
		l = append(slices.Clone(l), do(api.OpReturn))
	}
	procs = append(procs, proc(0, l...), proc(0, lay(number(8)), do(api.OpReturn)), proc(1, lay(number(8)), do(api.OpReturn)))
	x, h := d.thread(nilWord(), procs...), roomy()
	for range frames - 1 {
		d.skips(x, h, api.StepAlloc, api.StepLoad, api.StepLoad)
	}
	if n := len(x.Roots()); n != frames {
		d.Fatalf("%d roots, not %d", n, frames)
	}
	return x, h
}

// TestFrames: a call at 63 frames is one; at 64 it is an error, ahead of its access; a tail call is never one.
func TestFrames(t *testing.T) {
	d := desk{t}
	for _, frames := range []int{1, 2, 62, 63, 64} {
		for _, op := range []api.Op{api.OpCall, api.OpTail} {
			x, h := d.deep(frames, do(api.OpClosure, frames), do(op, 0))
			cell := len(h.cells)
			d.steps(x, h, allocs(cell, number(int64(frames)), nilWord()))
			if frames == 64 && op == api.OpCall {
				d.ends(x, h, 0, api.ErrVMFrames)
				continue
			}
			d.steps(x, h, loads(cell, 0, number(int64(frames))), loads(cell, 1, nilWord()))
			want := frames + 1
			if op == api.OpTail {
				want = frames
			}
			d.roots(x, slices.Repeat([]api.Word{nilWord()}, want)...)
			d.ends(x, h, number(8), api.OK)
		}
	}
}

// TestFramesAreLookedAtBehindTheClosure: which error comes first at 64 frames.
func TestFramesAreLookedAtBehindTheClosure(t *testing.T) {
	d := desk{t}
	x, h := d.deep(64, lay(number(7)), do(api.OpCall, 0))
	d.ends(x, h, 0, api.ErrVMCall)
	x, h = d.deep(64, do(api.OpClosure, 65), do(api.OpCall, 0))
	d.skips(x, h, api.StepAlloc)
	d.ends(x, h, 0, api.ErrVMFrames)
	x, h = d.deep(64, do(api.OpClosure, 64), do(api.OpSpawn))
	d.skips(x, h, api.StepAlloc, api.StepLoad, api.StepLoad, api.StepSpawn)
	d.ends(x, h, number(2), api.OK)
}

// TestFramesComeBack: what returns makes room for another frame.
func TestFramesComeBack(t *testing.T) {
	d := desk{t}
	x, h := d.deep(63, do(api.OpClosure, 63), do(api.OpCall, 0), do(api.OpPop), do(api.OpClosure, 63), do(api.OpCall, 0))
	for range 2 {
		d.skips(x, h, api.StepAlloc, api.StepLoad, api.StepLoad)
	}
	d.ends(x, h, number(8), api.OK)
}

// calling is a thread that calls procedure 1, of so many parameters, with the arguments 1, 2 and so on; it answers what
// stands that many places up. What is called is the global 0.
func (d desk) calling(op api.Op, params, given, up int) *vm.Thread {
	d.Helper()
	l := []api.Instr{do(api.OpGlobal, 0)}
	for i := range given {
		l = append(l, lay(number(int64(i+1))))
	}
	l = append(l, do(op, given))
	if op == api.OpCall {
		l = append(l, do(api.OpReturn))
	}
	return d.thread(words.Ref(0), proc(0, l...), proc(params, do(api.OpVar, up), do(api.OpReturn)))
}

// envHeap is a heap with a pair of 70 and nil, and a closure of that word with an environment of the pair.
func envHeap(procedure api.Word) *heap {
	h := roomy(words.Ref(1))
	h.cells = []api.Cell{{Kind: api.KindPair, A: number(70), B: nilWord()}, {Kind: api.KindClosure, A: procedure, B: words.Ref(0)}}
	return h
}

// TestArguments: none, one, many, as many as can stand on the stack: each is laid ahead of the others, the first one first.
func TestArguments(t *testing.T) {
	d := desk{t}
	for _, op := range []api.Op{api.OpCall, api.OpTail} {
		for _, n := range []int{0, 1, 2, 3, 10, 254} {
			for _, up := range []int{0, 1, n - 1, n, n + 1} {
				if up < 0 {
					continue
				}
				x, h := d.calling(op, n, n, up), envHeap(number(1))
				stack := []api.Word{words.Ref(1)}
				for i := range n {
					stack = append(stack, number(int64(i+1)))
				}
				d.steps(x, h, finds(0, words.Ref(1)), loads(1, 0, number(1)))
				d.roots(x, append(slices.Clone(stack), words.Ref(0))...)
				d.steps(x, h, loads(1, 1, words.Ref(0)))
				env := words.Ref(0)
				for i := range n {
					d.roots(x, append(slices.Clone(stack), env, words.Ref(0))...)
					d.steps(x, h, allocs(2+i, number(int64(i+1)), env))
					env = words.Ref(2 + i)
				}
				if op == api.OpCall {
					d.roots(x, words.Ref(0), env)
				} else {
					d.roots(x, env)
				}
				for range up {
					if cell, _ := words.Cell(env); up <= n {
						d.steps(x, h, loads(cell, 1, h.cells[cell].B))
						env = h.cells[cell].B
					} else {
						d.skips(x, h, api.StepLoad)
					}
				}
				switch {
				case up == n:
					d.steps(x, h, loads(0, 0, number(70)))
					d.ends(x, h, number(70), api.OK)
				case up > n:
					d.ends(x, h, 0, api.ErrVMUnset)
				default:
					cell, _ := words.Cell(env)
					d.steps(x, h, loads(cell, 0, number(int64(n-up))))
					d.ends(x, h, number(int64(n-up)), api.OK)
				}
			}
		}
	}
}

// TestWrongArguments: too few, too many; told with the step behind the first load.
func TestWrongArguments(t *testing.T) {
	d := desk{t}
	for _, op := range []api.Op{api.OpCall, api.OpTail} {
		for _, row := range [][2]int{{1, 0}, {0, 1}, {2, 1}, {1, 2}, {256, 0}, {5, 4}, {4, 5}, {0, 254}, {256, 254}} {
			x, h := d.calling(op, row[0], row[1], 0), envHeap(number(1))
			d.steps(x, h, finds(0, words.Ref(1)), loads(1, 0, number(1)))
			d.ends(x, h, 0, api.ErrVMArgs)
		}
	}
}

// TestWrongProcedures: a closure whose word is no procedure's number, whatever it is, with call, tail and spawn.
func TestWrongProcedures(t *testing.T) {
	d := desk{t}
	wrong := []api.Word{number(-1), number(2), number(3), number(1<<59 - 1), number(-1 << 59), 0, 1 << 63, words.Ref(0), words.Ref(1)}
	for _, w := range append(wrong, kindsOfWords()...) {
		if w == number(0) || w == number(1) {
			continue
		}
		for n := range 3 {
			for _, op := range []api.Op{api.OpCall, api.OpTail} {
				x, h := d.calling(op, n, n, 0), envHeap(w)
				d.steps(x, h, finds(0, words.Ref(1)), loads(1, 0, w))
				d.ends(x, h, 0, api.ErrVMCall)
			}
		}
		x, h := d.main(do(api.OpGlobal, 0), do(api.OpSpawn), do(api.OpReturn)), envHeap(w)
		if w == number(2) {
			continue
		}
		d.steps(x, h, finds(0, words.Ref(1)), loads(1, 0, w))
		d.ends(x, h, 0, api.ErrVMCall)
	}
}

// TestProceduresAtTheBounds: the first and the last one that there are can be called, and are.
func TestProceduresAtTheBounds(t *testing.T) {
	d := desk{t}
	l := []api.Proc{proc(0, do(api.OpGlobal, 0), do(api.OpCall, 0), do(api.OpReturn))}
	for i := range 255 {
		l = append(l, answers(number(int64(i+1))))
	}
	for _, n := range []int64{1, 2, 254, 255} {
		x, h := d.thread(nilWord(), l...), envHeap(number(n))
		d.steps(x, h, finds(0, words.Ref(1)), loads(1, 0, number(n)), loads(1, 1, words.Ref(0)))
		d.ends(x, h, number(n), api.OK)
	}
	x, h := d.thread(nilWord(), l...), envHeap(number(256))
	d.steps(x, h, finds(0, words.Ref(1)), loads(1, 0, number(256)))
	d.ends(x, h, 0, api.ErrVMCall)
	x, h = d.thread(nilWord(), l...), envHeap(number(0))
	d.steps(x, h, finds(0, words.Ref(1)), loads(1, 0, number(0)), loads(1, 1, words.Ref(0)))
	d.roots(x, nilWord(), words.Ref(0))
	d.steps(x, h, finds(0, words.Ref(1)))
}

// TestTailTakesTheFramesPlace: all that the frame has on the stack goes, what is below stays; what returns then returns to
// the one below.
func TestTailTakesTheFramesPlace(t *testing.T) {
	d := desk{t}
	x := d.thread(nilWord(),
		proc(0, lay(number(1)), lay(number(2)), do(api.OpClosure, 1), do(api.OpCall, 0), prim(api.PrimPlus), prim(api.PrimPlus), do(api.OpReturn)),
		proc(0, lay(number(30)), lay(number(40)), do(api.OpClosure, 2), lay(number(50)), do(api.OpTail, 1)),
		proc(1, lay(number(60)), do(api.OpVar, 0), do(api.OpReturn)))
	h := roomy()
	d.steps(x, h, allocs(0, number(1), nilWord()), loads(0, 0, number(1)), loads(0, 1, nilWord()))
	d.roots(x, number(1), number(2), nilWord(), nilWord())
	d.steps(x, h, allocs(1, number(2), nilWord()))
	d.roots(x, number(1), number(2), number(30), number(40), words.Ref(1), nilWord(), nilWord())
	d.steps(x, h, loads(1, 0, number(2)))
	d.roots(x, number(1), number(2), number(30), number(40), words.Ref(1), number(50), nilWord(), nilWord())
	d.steps(x, h, loads(1, 1, nilWord()), allocs(2, number(50), nilWord()))
	d.roots(x, number(1), number(2), nilWord(), words.Ref(2))
	d.steps(x, h, loads(2, 0, number(50)))
	d.roots(x, number(1), number(2), number(60), number(50), nilWord(), words.Ref(2))
	d.ends(x, h, number(53), api.OK)
}

// TestTailForEver: tail calls take no room, however many there are.
func TestTailForEver(t *testing.T) {
	d := desk{t}
	x := d.thread(words.Ref(0), proc(0, lay(number(1)), do(api.OpGlobal, 0), do(api.OpTail, 0)))
	h := envHeap(number(0))
	for range 1000 {
		d.steps(x, h, finds(0, words.Ref(1)), loads(1, 0, number(0)), loads(1, 1, words.Ref(0)))
		d.roots(x, words.Ref(0))
	}
}

// TestReturn: all that the frame has goes, and the word comes.
func TestReturn(t *testing.T) {
	d := desk{t}
	x := d.thread(nilWord(),
		proc(0, lay(number(1)), do(api.OpClosure, 1), do(api.OpCall, 0), do(api.OpYield), do(api.OpReturn)),
		proc(0, lay(number(2)), lay(number(3)), lay(number(4)), do(api.OpYield), do(api.OpPop), do(api.OpReturn)))
	h := roomy()
	d.skips(x, h, api.StepAlloc, api.StepLoad, api.StepLoad, api.StepBreath)
	d.roots(x, number(1), number(2), number(3), number(4), nothing(), nilWord(), nilWord())
	d.steps(x, h, breath())
	d.roots(x, number(1), number(4), nothing(), nilWord())
	d.ends(x, h, nothing(), api.OK)
}

// TestSpawn: three steps; what it has in hand stands on the stack till then.
func TestSpawn(t *testing.T) {
	d := desk{t}
	for _, thread := range []int{1, 2, 8} {
		x, h := d.thread(nilWord(), proc(0, lay(number(9)), do(api.OpGlobal, 0), do(api.OpSpawn), do(api.OpReturn)), proc(0, do(api.OpJump, 0))), envHeap(number(1))
		h.thread = thread
		d.steps(x, h, finds(0, words.Ref(1)), loads(1, 0, number(1)))
		d.roots(x, number(9), words.Ref(1), nilWord())
		d.steps(x, h, loads(1, 1, words.Ref(0)))
		d.roots(x, number(9), words.Ref(1), words.Ref(0), nilWord())
		n := &notes{teller: h}
		d.steps(x, n, api.Event{What: api.StepSpawn, Other: thread, New: words.Ref(1)})
		if c := n.calls[0]; c.name != "Spawn" || c.numbers[0] != 1 || c.words[0] != words.Ref(0) {
			t.Error(c)
		}
		d.roots(x, number(9), number(int64(thread)), nilWord())
		d.ends(x, h, number(int64(thread)), api.OK)
	}
	x, h := d.thread(nilWord(), proc(0, do(api.OpGlobal, 0), do(api.OpSpawn), do(api.OpReturn)), proc(1, do(api.OpJump, 0))), envHeap(number(1))
	d.steps(x, h, finds(0, words.Ref(1)), loads(1, 0, number(1)))
	d.ends(x, h, 0, api.ErrVMArgs)
}
