package vm_test

import (
	"testing"

	"dapple/api"
	"dapple/words"
)

// chain is a heap with an environment of so many variables: the cell i has the word 10 + i, and above it is the cell i + 1.
func chain(n int) (*heap, api.Word) {
	h := roomy()
	for i := range n {
		above := words.Ref(i + 1)
		if i == n-1 {
			above = nilWord()
		}
		h.cells = append(h.cells, api.Cell{Kind: api.KindPair, A: number(int64(10 + i)), B: above})
	}
	if n == 0 {
		return h, nilWord()
	}
	return h, words.Ref(0)
}

// TestVariables: a step for each place up, and one for the word; an environment that ends too early.
func TestVariables(t *testing.T) {
	d := desk{t}
	for _, n := range []int{0, 1, 2, 5, 257} {
		for _, a := range []int{0, 1, 2, 4, 5, 256} {
			h, env := chain(n)
			x := d.thread(env, proc(0, lay(number(1)), do(api.OpVar, a), do(api.OpReturn)))
			for i := range min(a, n) {
				d.steps(x, h, loads(i, 1, h.cells[i].B))
				d.roots(x, number(1), h.cells[i].B, env)
			}
			if a >= n {
				d.ends(x, h, 0, api.ErrVMUnset)
				continue
			}
			d.steps(x, h, loads(a, 0, number(int64(10+a))))
			d.roots(x, number(1), number(int64(10+a)), env)
			d.ends(x, h, number(int64(10+a)), api.OK)
		}
	}
}

// TestSetVariables: likewise, with a store at last; the word stays on the stack till then.
func TestSetVariables(t *testing.T) {
	d := desk{t}
	for _, n := range []int{0, 1, 2, 5, 257} {
		for _, a := range []int{0, 1, 2, 4, 5, 256} {
			h, env := chain(n)
			x := d.thread(env, proc(0, lay(number(1)), lay(number(2)), do(api.OpSetVar, a), do(api.OpReturn)))
			for i := range min(a, n) {
				d.steps(x, h, loads(i, 1, h.cells[i].B))
				d.roots(x, number(1), number(2), h.cells[i].B, env)
			}
			if a >= n {
				d.ends(x, h, 0, api.ErrVMUnset)
				continue
			}
			d.steps(x, h, api.Event{What: api.StepStore, Cell: a, Old: number(int64(10 + a)), New: number(2)})
			d.roots(x, number(1), nothing(), env)
			d.ends(x, h, nothing(), api.OK)
			if h.cells[a].A != number(2) {
				t.Error(h.cells[a])
			}
		}
	}
}

// TestEnvironmentOfNoPairs: whatever stands where a pair must is unset: at once, some places up, and at last.
func TestEnvironmentOfNoPairs(t *testing.T) {
	d := desk{t}
	for _, at := range []int{0, 1, 3} {
		for _, a := range []int{at, at + 1, at + 5} {
			for _, wrong := range append(kindsOfWords(), 0) {
				h, env := chain(9)
				h.cells = append(h.cells, api.Cell{Kind: api.KindBox}, api.Cell{Kind: api.KindClosure}, api.Cell{})
				cell := words.Ref(9)
				switch wrong {
				case pairRef():
					continue
				case closureRef():
					wrong = words.Ref(10)
				case freeRef():
					wrong = words.Ref(11)
				case boxRef():
					wrong = cell
				}
				if at == 0 {
					env = wrong
				} else {
					h.cells[at-1].B = wrong
				}
				for _, l := range [][]api.Instr{{do(api.OpVar, a), do(api.OpReturn)}, {lay(number(1)), do(api.OpSetVar, a), do(api.OpReturn)}} {
					x := d.thread(env, proc(0, l...))
					for range at {
						d.skips(x, h, api.StepLoad)
					}
					d.ends(x, h, 0, api.ErrVMUnset)
				}
			}
		}
	}
}

// TestUnset: TagNone in a variable and in a global is told by the access; it may be stored, and is no error elsewhere.
func TestUnset(t *testing.T) {
	d := desk{t}
	for a := range 4 {
		h, env := chain(5)
		h.cells[a].A = nothing()
		x := d.thread(env, proc(0, do(api.OpVar, a), do(api.OpReturn)))
		for range a {
			d.skips(x, h, api.StepLoad)
		}
		d.fails(x, h, api.Event{What: api.StepLoad, Cell: a, Err: api.ErrVMUnset})
		h.cells[a].A = number(1)
		x = d.thread(env, proc(0, lay(nothing()), do(api.OpSetVar, a), do(api.OpReturn)))
		for range a {
			d.skips(x, h, api.StepLoad)
		}
		d.steps(x, h, api.Event{What: api.StepStore, Cell: a, Old: number(1), New: nothing()})
		d.ends(x, h, nothing(), api.OK)
	}
	for i := range 8 {
		h := roomy(number(0), number(1), number(2), number(3), number(4), number(5), number(6), number(7))
		x := d.main(lay(nothing()), do(api.OpSetGlobal, i), do(api.OpPop), do(api.OpGlobal, i), do(api.OpReturn))
		d.steps(x, h, api.Event{What: api.StepSetGlobal, Other: i, Old: number(int64(i)), New: nothing()})
		d.fails(x, h, api.Event{What: api.StepGlobal, Other: i, Err: api.ErrVMUnset})
	}
	h, _ := chain(1)
	h.cells[0].A, h.cells[0].B = nothing(), nothing()
	h.globals = []api.Word{words.Ref(0)}
	for field, p := range []api.Prim{api.PrimCar, api.PrimCdr} {
		x := d.main(do(api.OpGlobal, 0), prim(p), do(api.OpReturn))
		d.steps(x, h, finds(0, words.Ref(0)), loads(0, field, nothing()))
		d.ends(x, h, nothing(), api.OK)
	}
}

// TestGlobals: all that there can be.
func TestGlobals(t *testing.T) {
	d := desk{t}
	for i := range 8 {
		h := roomy(number(10), number(11), number(12), number(13), number(14), number(15), number(16), number(17))
		x := d.main(lay(number(1)), do(api.OpGlobal, i), do(api.OpReturn))
		d.steps(x, h, finds(i, number(int64(10+i))))
		d.roots(x, number(1), number(int64(10+i)), nilWord())
		d.ends(x, h, number(int64(10+i)), api.OK)
		x = d.main(lay(number(1)), lay(number(2)), do(api.OpSetGlobal, i), do(api.OpReturn))
		d.steps(x, h, api.Event{What: api.StepSetGlobal, Other: i, Old: number(int64(10 + i)), New: number(2)})
		d.roots(x, number(1), nothing(), nilWord())
		d.ends(x, h, nothing(), api.OK)
	}
}
