package vm_test

import (
	"reflect"
	"slices"
	"testing"

	"dapple/api"
	"dapple/code"
	"dapple/vm"
	"dapple/words"
)

// number is the word of an integer.
func number(n int64) api.Word {
	w, _ := words.Int(n)
	return w
}

// sole is the word of a tag that has one alone.
func sole(t api.Tag) api.Word { return tagged(t, 0) }

func tagged(t api.Tag, n int64) api.Word {
	w, _ := words.Make(t, n)
	return w
}

func nilWord() api.Word { return sole(api.TagNil) }
func nothing() api.Word { return sole(api.TagNone) }

// pool are constants of all kinds, which each code of these tests has: the integers from -1 to 299 stand first.
func pool() []api.Word {
	var l []api.Word
	for n := range int64(301) {
		l = append(l, number(n-1))
	}
	return append(l, sole(api.TagNil), sole(api.TagFalse), sole(api.TagTrue), sole(api.TagNone), tagged(api.TagSymbol, 0), tagged(api.TagSymbol, 7), tagged(api.TagPrim, 3), number(1<<59-1), number(-1<<59))
}

// do is an instruction; of some the number is 0, and can be left out.
func do(op api.Op, a ...int) api.Instr {
	if len(a) == 0 {
		return api.Instr{Op: op}
	}
	return api.Instr{Op: op, A: a[0]}
}

// lay is the instruction that pushes a word of the pool.
func lay(w api.Word) api.Instr {
	i := slices.Index(pool(), w)
	if i < 0 {
		panic("no constant")
	}
	return do(api.OpConst, i)
}

// lays are the instructions that push integers.
func lays(n ...int64) []api.Instr {
	var l []api.Instr
	for _, i := range n {
		l = append(l, lay(number(i)))
	}
	return l
}

func prim(p api.Prim) api.Instr { return do(api.OpPrim, int(p)) }

// proc is a procedure.
func proc(params int, l ...api.Instr) api.Proc { return api.Proc{Params: params, Code: l} }

// coded is code with the pool, and eight globals.
func coded(procs ...api.Proc) api.Code {
	return api.Code{Consts: pool(), Procs: procs, Globals: []string{"a", "b", "c", "d", "e", "f", "g", "h"}}
}

// desk makes threads and steps, and sees that each answers what it is told.
type desk struct{ *testing.T }

// thread is one of these procedures, with an environment.
func (d desk) thread(env api.Word, procs ...api.Proc) *vm.Thread {
	d.Helper()
	c := coded(procs...)
	if e, p, at := code.Check(c); e != api.OK {
		d.Fatalf("code that may not be: %d, %d, %d: %v", e, p, at, procs)
	}
	x, e := vm.New(c, 0, env)
	if e != api.OK {
		d.Fatal(e)
	}
	return x
}

// main is a thread of one procedure, with the environment nil.
func (d desk) main(l ...api.Instr) *vm.Thread {
	d.Helper()
	return d.thread(nilWord(), proc(0, l...))
}

// same tells whether two events are the same; no list is an empty one.
func same(a, b api.Event) bool {
	ok := slices.Equal(a.Shaded, b.Shaded)
	a.Shaded, b.Shaded = nil, nil
	return ok && reflect.DeepEqual(a, b)
}

// isAccess tells whether a step is an access.
func isAccess(w api.What) bool {
	return w != 0 && w != api.StepEnd && w != api.StepBreath
}

// steps goes steps, which must tell these; each makes one access, if it is one, and else none.
func (d desk) steps(x *vm.Thread, h vm.Accesses, want ...api.Event) {
	d.Helper()
	for i, w := range want {
		n := &notes{teller: h}
		if got := x.Step(n); !same(got, w) {
			d.Errorf("step %d: %+v, not %+v", i, got, w)
		}
		calls := n.taken()
		if isAccess(w.What) != (len(calls) == 1) || len(calls) > 1 {
			d.Errorf("step %d: %+v made the accesses %v", i, w, calls)
		}
	}
}

// skips goes steps, which must be of these kinds.
func (d desk) skips(x *vm.Thread, h vm.Accesses, want ...api.What) {
	d.Helper()
	for i, w := range want {
		if got := x.Step(h); got.What != w || got.Err != api.OK {
			d.Fatalf("step %d: %+v, not %d", i, got, w)
		}
	}
}

// roots are what x has.
func (d desk) roots(x *vm.Thread, want ...api.Word) {
	d.Helper()
	if got := x.Roots(); !slices.Equal(got, want) {
		d.Errorf("roots %v, not %v", got, want)
	}
}

// goesOn sees that it has not ended.
func (d desk) goesOn(x *vm.Thread) {
	d.Helper()
	if got := x.Ended(); got != (api.Ended{}) {
		d.Errorf("ended: %+v", got)
	}
}

// over sees that it has ended, with that word or by that error, and that nothing comes of it any more.
func (d desk) over(x *vm.Thread, w api.Word, e api.Errno) {
	d.Helper()
	want := []api.Word{w}
	if e != api.OK {
		want = nil
	}
	for range 3 {
		if got := x.Ended(); got != (api.Ended{Ended: true, Word: w, Err: e}) {
			d.Errorf("ended: %+v, not %d, %d", got, w, e)
		}
		d.roots(x, want...)
		d.steps(x, &fixed{}, api.Event{})
		d.refused(x, api.ErrArg)
	}
}

// ends goes a step, which must be its end with that word or by that error.
func (d desk) ends(x *vm.Thread, h vm.Accesses, w api.Word, e api.Errno) {
	d.Helper()
	d.goesOn(x)
	d.steps(x, h, api.Event{What: api.StepEnd, New: w, Err: e})
	d.over(x, w, e)
}

// fails goes a step, which must be that event with an error, by which the thread ends.
func (d desk) fails(x *vm.Thread, h vm.Accesses, want api.Event) {
	d.Helper()
	d.goesOn(x)
	d.steps(x, h, want)
	d.over(x, 0, want.Err)
}

// refused is Refuse, which must tell this.
func (d desk) refused(x *vm.Thread, want api.Errno) {
	d.Helper()
	if got := x.Refuse(); got != want {
		d.Errorf("Refuse: %d, not %d", got, want)
	}
}

// loads is the event of a LOAD.
func loads(cell, field int, w api.Word) api.Event {
	return api.Event{What: api.StepLoad, Cell: cell, Field: field, Old: w, New: w}
}

// allocs is the event of an ALLOC.
func allocs(cell int, a, b api.Word) api.Event {
	return api.Event{What: api.StepAlloc, Cell: cell, Old: a, New: b}
}

// finds is the event of a GLOBAL.
func finds(i int, w api.Word) api.Event {
	return api.Event{What: api.StepGlobal, Other: i, Old: w, New: w}
}

// waits is the event of an ALLOC that got nothing.
func waits() api.Event { return api.Event{What: api.StepWait} }

// breath is the event of a breath.
func breath() api.Event { return api.Event{What: api.StepBreath} }

// TestErrorNumbers: as the chapter lists them.
func TestErrorNumbers(t *testing.T) {
	got := []api.Errno{api.ErrArg, api.ErrNoCells, api.ErrVMStack, api.ErrVMFrames, api.ErrVMCall, api.ErrVMArgs, api.ErrVMRaised, api.ErrVMUnset}
	if want := []api.Errno{1, 121, 180, 181, 182, 183, 184, 185}; !slices.Equal(got, want) {
		t.Error(got)
	}
}

// consing is the code of the chapter's first example.
func consing() []api.Instr {
	return []api.Instr{lay(number(5)), lay(nilWord()), prim(api.PrimCons), prim(api.PrimCar), do(api.OpReturn)}
}

// TestExample1: 5 and nil are consed, the pair's car is answered.
func TestExample1(t *testing.T) {
	d, h := desk{t}, roomy()
	x := d.main(consing()...)
	d.roots(x, nilWord())
	d.steps(x, h, allocs(0, number(5), nilWord()))
	d.roots(x, words.Ref(0), nilWord())
	d.steps(x, h, loads(0, 0, number(5)))
	d.roots(x, number(5), nilWord())
	d.ends(x, h, number(5), api.OK)
}

// TestExample2: a call of one argument.
func TestExample2(t *testing.T) {
	d, h := desk{t}, roomy()
	x := d.thread(nilWord(), proc(0, do(api.OpClosure, 1), lay(number(7)), do(api.OpCall, 1), do(api.OpReturn)), proc(1, do(api.OpVar, 0), do(api.OpReturn)))
	d.steps(x, h, allocs(0, number(1), nilWord()))
	d.roots(x, words.Ref(0), nilWord())
	d.steps(x, h, loads(0, 0, number(1)))
	d.roots(x, words.Ref(0), number(7), nilWord())
	d.steps(x, h, loads(0, 1, nilWord()))
	d.roots(x, words.Ref(0), number(7), nilWord(), nilWord())
	d.steps(x, h, allocs(1, number(7), nilWord()))
	d.roots(x, nilWord(), words.Ref(1))
	d.steps(x, h, loads(1, 0, number(7)))
	d.roots(x, number(7), nilWord(), words.Ref(1))
	d.ends(x, h, number(7), api.OK)
}

// TestExample3: too few arguments, and a call of what is no closure.
func TestExample3(t *testing.T) {
	d, h := desk{t}, roomy()
	x := d.thread(nilWord(), proc(0, do(api.OpClosure, 1), do(api.OpCall, 0), do(api.OpReturn)), proc(1, do(api.OpVar, 0), do(api.OpReturn)))
	d.steps(x, h, allocs(0, number(1), nilWord()), loads(0, 0, number(1)))
	d.ends(x, h, 0, api.ErrVMArgs)
	x = d.main(lay(number(7)), do(api.OpCall, 0), do(api.OpReturn))
	d.ends(x, h, 0, api.ErrVMCall)
}

// TestExample4: breaths.
func TestExample4(t *testing.T) {
	d, h := desk{t}, roomy()
	x := d.main(do(api.OpJump, 0))
	for range 100 {
		d.steps(x, h, breath())
		d.goesOn(x)
		d.roots(x, nilWord())
	}
	x = d.main(do(api.OpYield), do(api.OpReturn))
	d.steps(x, h, breath())
	d.roots(x, nothing(), nilWord())
	d.ends(x, h, nothing(), api.OK)
}

// TestExample5: no free cell.
func TestExample5(t *testing.T) {
	d, h := desk{t}, roomy()
	h.most = 0
	x := d.main(consing()...)
	d.steps(x, h, waits())
	d.roots(x, number(5), nilWord(), nilWord(), number(5), nilWord())
	h.most = 1
	d.steps(x, h, allocs(0, number(5), nilWord()))
	d.refused(x, api.ErrArg)
	x = d.main(consing()...)
	d.steps(x, h, waits())
	d.refused(x, api.OK)
	d.ends(x, h, 0, api.ErrNoCells)
}

// TestExample6: what is not set.
func TestExample6(t *testing.T) {
	d := desk{t}
	h := roomy(nothing())
	d.ends(d.main(do(api.OpVar, 0), do(api.OpReturn)), h, 0, api.ErrVMUnset)
	d.fails(d.main(do(api.OpGlobal, 0), do(api.OpReturn)), h, api.Event{What: api.StepGlobal, Err: api.ErrVMUnset})
}
