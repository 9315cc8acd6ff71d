package vm_test

import (
	"slices"
	"testing"

	"dapple/api"
	"dapple/vm"
	"dapple/words"
)

// asking is where a thread asks for a cell: how it comes there, on a heap whose cells are the first ones of the steps; what it
// asks for, and its roots ahead of that.
type asking struct {
	name  string
	procs []api.Proc
	ahead int // accesses
	want  api.Event
	roots []api.Word
}

// askings are all instructions that ask for cells.
func askings() []asking {
	n, self := nilWord(), words.Ref(0)
	l := []asking{
		{"closure", []api.Proc{proc(0, lay(number(1)), do(api.OpClosure, 0), do(api.OpReturn))}, 0, allocs(0, number(0), n), []api.Word{number(1), n}},
		{"cons", []api.Proc{proc(0, lay(number(1)), lay(number(2)), prim(api.PrimCons), do(api.OpReturn))}, 0, allocs(0, number(1), number(2)), []api.Word{number(1), number(2), n}},
		{"box", []api.Proc{proc(0, lay(number(1)), lay(number(2)), prim(api.PrimBox), do(api.OpReturn))}, 0, allocs(0, number(2), n), []api.Word{number(1), number(2), n}},
	}
	for _, op := range []api.Op{api.OpCall, api.OpTail} {
		main := []api.Instr{do(api.OpClosure, 1), lay(number(1)), lay(number(2)), lay(number(3)), do(op, 3), do(api.OpReturn)}
		if op == api.OpTail {
			main = main[:5]
		}
		procs := []api.Proc{proc(0, main...), proc(3, do(api.OpJump, 0))}
		for i := range 3 {
			top := n
			if i > 0 {
				top = words.Ref(i)
			}
			l = append(l, asking{"argument", procs, 3 + i, allocs(1+i, number(int64(i+1)), top), []api.Word{self, number(1), number(2), number(3), top, n}})
		}
	}
	return l
}

// come is a thread that has come to where it asks, on a heap without another cell.
func (d desk) come(a asking) (*vm.Thread, *heap) {
	d.Helper()
	x, h := d.thread(nilWord(), a.procs...), roomy()
	h.most = a.want.Cell
	for range a.ahead {
		if got := x.Step(h); !isAccess(got.What) || got.Err != api.OK || got.What == api.StepWait {
			d.Fatalf("%+v", got)
		}
	}
	return x, h
}

// TestNoCellNow: whoever asks waits, as long as there is none; then it is as if there had been one at once.
func TestNoCellNow(t *testing.T) {
	d := desk{t}
	for _, a := range askings() {
		soon, h := d.come(a)
		h.most++
		d.steps(soon, h, a.want)
		for _, times := range []int{1, 2, 7} {
			x, h := d.come(a)
			requests := append(slices.Clone(a.roots), a.want.Old, a.want.New)
			for range times {
				n := &notes{teller: h}
				d.steps(x, n, waits())
				d.roots(x, requests...)
				d.goesOn(x)
				if c := n.taken()[0]; c.name != "Alloc" || !slices.Equal(c.words, []api.Word{a.want.Old, a.want.New}) {
					t.Error(a.name, c)
				}
			}
			h.most++
			d.steps(x, h, a.want)
			d.roots(x, soon.Roots()...)
			d.refused(x, api.ErrArg)
		}
	}
}

// TestRefuse: only who asked for a cell in vain is refused, and once; with the next step it ends, whatever there is then.
func TestRefuse(t *testing.T) {
	d := desk{t}
	for _, a := range askings() {
		for _, times := range []int{1, 3} {
			x, h := d.come(a)
			d.refused(x, api.ErrArg)
			for range times {
				d.steps(x, h, waits())
			}
			d.refused(x, api.OK)
			requests := append(slices.Clone(a.roots), a.want.Old, a.want.New)
			d.roots(x, requests...)
			for range 3 {
				d.refused(x, api.ErrArg)
				d.roots(x, requests...)
			}
			h.most = 1000
			cells := len(h.cells)
			d.ends(x, h, 0, api.ErrNoCells)
			if len(h.cells) != cells {
				t.Error("a cell was made")
			}
		}
	}
}

// TestRefuseInEveryState: a new thread, one behind each kind of step, one in the midst of an instruction, one that has ended.
func TestRefuseInEveryState(t *testing.T) {
	d := desk{t}
	h := envHeap(number(1))
	x := d.thread(words.Ref(0),
		proc(0, do(api.OpYield), do(api.OpGlobal, 0), lay(number(3)), lay(number(4)), do(api.OpCall, 2), do(api.OpReturn)),
		proc(2, do(api.OpVar, 2), lay(number(1)), do(api.OpJoin), lay(number(2)), do(api.OpLock), lay(number(5)), prim(api.PrimBox), do(api.OpReturn)))
	want := []api.What{api.StepBreath, api.StepGlobal, api.StepLoad, api.StepLoad, api.StepAlloc, api.StepAlloc, api.StepLoad, api.StepLoad, api.StepLoad, api.StepJoin, api.StepLock, api.StepAlloc, api.StepEnd}
	for _, w := range want {
		d.refused(x, api.ErrArg)
		d.skips(x, h, w)
		d.refused(x, api.ErrArg)
	}
	d.over(x, words.Ref(4), api.OK)
	h.now = false
	x = d.main(lay(number(1)), do(api.OpJoin), do(api.OpReturn))
	d.skips(x, h, api.StepWaitJoin)
	d.refused(x, api.ErrArg)
	x = d.main(lay(number(1)), do(api.OpLock), do(api.OpReturn))
	d.skips(x, h, api.StepWaitLock)
	d.refused(x, api.ErrArg)
}

// TestRefusedLater: who has been given a cell behind a wait may be refused at the next one.
func TestRefusedLater(t *testing.T) {
	d := desk{t}
	x, h := d.main(lay(number(1)), prim(api.PrimBox), prim(api.PrimBox), do(api.OpReturn)), roomy()
	h.most = 0
	d.steps(x, h, waits())
	h.most = 1
	d.steps(x, h, allocs(0, number(1), nilWord()))
	d.roots(x, words.Ref(0), nilWord())
	d.refused(x, api.ErrArg)
	d.steps(x, h, waits())
	d.roots(x, words.Ref(0), nilWord(), words.Ref(0), nilWord())
	d.refused(x, api.OK)
	d.ends(x, h, 0, api.ErrNoCells)
}

// TestJoinAndLockToldNo: who joins asks again till it is told; who locks does not, as it is handed the lock.
func TestJoinAndLockToldNo(t *testing.T) {
	d := desk{t}
	for _, times := range []int{0, 1, 2, 9} {
		x, h := d.main(lay(number(3)), lay(number(4)), do(api.OpJoin), do(api.OpReturn)), roomy()
		h.now = false
		for range times {
			d.steps(x, h, api.Event{What: api.StepWaitJoin, Other: 4})
			d.roots(x, number(3), number(4), nilWord())
			d.goesOn(x)
		}
		h.now = true
		d.steps(x, h, api.Event{What: api.StepJoin, Other: 4, New: number(5)})
		d.roots(x, number(3), number(5), nilWord())
		d.ends(x, h, number(5), api.OK)
	}
	x, h := d.main(lay(number(3)), lay(number(4)), do(api.OpJoin), do(api.OpReturn)), roomy()
	h.now = false
	d.steps(x, h, api.Event{What: api.StepWaitJoin, Other: 4})
	h.e = api.ErrVMRaised
	d.fails(x, h, api.Event{What: api.StepJoin, Other: 4, Err: api.ErrVMRaised})
	x, h = d.main(lay(number(3)), lay(number(4)), do(api.OpLock), do(api.OpReturn)), roomy()
	h.now = false
	d.steps(x, h, api.Event{What: api.StepWaitLock, Other: 4})
	d.roots(x, number(3), nothing(), nilWord())
	d.ends(x, h, nothing(), api.OK)
}
