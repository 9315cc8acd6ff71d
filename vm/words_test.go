package vm_test

import (
	"slices"
	"testing"

	"dapple/api"
	"dapple/vm"
)

// kindsOfWords are words of all kinds that there are.
func kindsOfWords() []api.Word {
	return []api.Word{number(3), number(-1), nilWord(), sole(api.TagFalse), sole(api.TagTrue), nothing(), tagged(api.TagSymbol, 7), tagged(api.TagPrim, 3), pairRef(), boxRef(), closureRef(), freeRef()}
}

// shelf tells as fixed does, but that its globals are those that it has.
type shelf struct {
	fixed
	globals []api.Word
}

func (s *shelf) Global(i int) api.Word { return s.globals[i] }

// refs are the globals of a shelf.
func refs() []api.Word { return []api.Word{pairRef(), boxRef(), closureRef(), freeRef()} }

// laid are the instructions that push these words, and how many steps they are: references come out of globals.
func laid(l ...api.Word) ([]api.Instr, []api.What) {
	var out []api.Instr
	var whats []api.What
	for _, w := range l {
		if i := slices.Index(refs(), w); i >= 0 {
			out = append(out, do(api.OpGlobal, i))
			whats = append(whats, api.StepGlobal)
		} else {
			out = append(out, lay(w))
		}
	}
	return out, whats
}

// behind is a thread that has gone through what lays these words, up to the instruction, whose next step is its first one.
func (d desk) behind(l []api.Word, i api.Instr) *vm.Thread {
	d.Helper()
	out, whats := laid(l...)
	out = append(out, i)
	switch i.Op {
	case api.OpReturn, api.OpTail, api.OpJump:
	case api.OpPop:
		out = append(out, lay(number(9)), do(api.OpReturn))
	case api.OpBranch:
		out[len(out)-1].A = len(out) + 2
		out = append(out, lay(number(1)), do(api.OpReturn), lay(number(2)), do(api.OpReturn))
	default:
		out = append(out, do(api.OpReturn))
	}
	// The last step but one lays the last reference, and all that are no references behind it belong to the instruction's step.
	x := d.thread(pairRef(), proc(0, out...), proc(0, do(api.OpJump, 0)), proc(1, do(api.OpJump, 0)))
	d.skips(x, &shelf{globals: refs()}, whats...)
	return x
}

// TestPairsAndBoxes: the primitives that ask for one, with each word in each place: ErrWordKind, if it is none, and else one
// access.
func TestPairsAndBoxes(t *testing.T) {
	d := desk{t}
	for _, row := range []struct {
		prim  api.Prim
		ref   api.Word
		cell  int
		what  api.What
		field int
	}{
		{api.PrimCar, pairRef(), 8, api.StepLoad, 0}, {api.PrimCdr, pairRef(), 8, api.StepLoad, 1},
		{api.PrimSetCar, pairRef(), 8, api.StepStore, 0}, {api.PrimSetCdr, pairRef(), 8, api.StepStore, 1},
		{api.PrimUnbox, boxRef(), 13, api.StepLoad, 0}, {api.PrimSetBox, boxRef(), 13, api.StepStore, 0},
		{api.PrimCas, boxRef(), 13, api.StepCas, 0}, {api.PrimAdd, boxRef(), 13, api.StepAdd, 0},
	} {
		for _, first := range kindsOfWords() {
			for _, other := range kindsOfWords() {
				l := append([]api.Word{first}, slices.Repeat([]api.Word{other}, arguments(row.prim)-1)...)
				x := d.behind(l, prim(row.prim))
				h := &shelf{fixed{w: number(77), yes: true}, refs()}
				if first != row.ref {
					d.ends(x, h, 0, api.ErrWordKind)
					continue
				}
				got := x.Step(h)
				if got.What != row.what || got.Cell != row.cell || got.Field != row.field || got.Err != api.OK || got.Other != 0 {
					t.Errorf("%d of %v: %+v", row.prim, l, got)
				}
			}
		}
	}
}

// TestPure: the primitives that ask nobody, with each word in each place.
func TestPure(t *testing.T) {
	d := desk{t}
	yes, no := sole(api.TagTrue), sole(api.TagFalse)
	for _, w := range kindsOfWords() {
		isInt := w == number(3) || w == number(-1)
		for _, row := range []struct {
			prim api.Prim
			want bool
		}{{api.PrimIsNull, w == nilWord()}, {api.PrimIsPair, w == pairRef()}, {api.PrimIsInt, isInt}, {api.PrimNot, w == no}} {
			want := no
			if row.want {
				want = yes
			}
			d.ends(d.behind([]api.Word{w}, prim(row.prim)), &shelf{globals: refs()}, want, api.OK)
		}
		d.ends(d.behind([]api.Word{w}, prim(api.PrimError)), &shelf{}, 0, api.ErrVMRaised)
		for _, v := range kindsOfWords() {
			want := no
			if w == v {
				want = yes
			}
			d.ends(d.behind([]api.Word{w, v}, prim(api.PrimEq)), &shelf{}, want, api.OK)
			if !isInt || v != number(3) && v != number(-1) {
				for _, p := range []api.Prim{api.PrimPlus, api.PrimMinus, api.PrimTimes, api.PrimQuotient, api.PrimRemainder, api.PrimLess} {
					d.ends(d.behind([]api.Word{w, v}, prim(p)), &shelf{}, 0, api.ErrWordKind)
				}
			}
		}
	}
}

// TestNumbers: reckoning, and where it has no number.
func TestNumbers(t *testing.T) {
	d := desk{t}
	least, most := int64(-1<<59), int64(1<<59-1)
	for _, row := range []struct {
		prim api.Prim
		a, b int64
		want api.Word
		e    api.Errno
	}{
		{api.PrimPlus, 7, 2, number(9), 0}, {api.PrimMinus, 7, 2, number(5), 0}, {api.PrimMinus, 0, 1, number(-1), 0},
		{api.PrimTimes, 7, 2, number(14), 0}, {api.PrimQuotient, 7, 2, number(3), 0}, {api.PrimRemainder, 7, 2, number(1), 0},
		{api.PrimQuotient, 7, -1, number(-7), 0}, {api.PrimQuotient, 0, 7, number(0), 0}, {api.PrimRemainder, -1, 2, number(-1), 0},
		{api.PrimPlus, most, 1, 0, api.ErrWordOver}, {api.PrimMinus, least, 1, 0, api.ErrWordOver}, {api.PrimTimes, least, -1, 0, api.ErrWordOver},
		{api.PrimQuotient, least, -1, 0, api.ErrWordOver}, {api.PrimRemainder, least, -1, number(0), 0},
		{api.PrimQuotient, 7, 0, 0, api.ErrWordZero}, {api.PrimRemainder, 7, 0, 0, api.ErrWordZero},
		{api.PrimLess, 2, 7, sole(api.TagTrue), 0}, {api.PrimLess, 7, 2, sole(api.TagFalse), 0}, {api.PrimLess, 7, 7, sole(api.TagFalse), 0}, {api.PrimLess, least, most, sole(api.TagTrue), 0},
	} {
		d.ends(d.behind([]api.Word{number(row.a), number(row.b)}, prim(row.prim)), &shelf{}, row.want, row.e)
	}
}

// TestClosures: OpCall, OpTail and OpSpawn with each word as what is called; OpJoin, OpLock and OpUnlock with each as the number.
func TestClosures(t *testing.T) {
	d := desk{t}
	h := &shelf{fixed{w: number(1), yes: true}, refs()}
	for _, w := range kindsOfWords() {
		for _, i := range []api.Instr{do(api.OpCall, 0), do(api.OpTail, 0), do(api.OpSpawn)} {
			x := d.behind([]api.Word{w}, i)
			if w == closureRef() {
				d.steps(x, h, loads(18, 0, number(1)))
				d.roots(x, w, pairRef())
			} else {
				d.ends(x, h, 0, api.ErrVMCall)
			}
		}
		for _, v := range kindsOfWords() {
			for _, op := range []api.Op{api.OpCall, api.OpTail} {
				x := d.behind([]api.Word{w, v}, do(op, 1))
				if w == closureRef() {
					d.steps(x, h, loads(18, 0, number(1)))
					d.roots(x, w, v, pairRef())
				} else {
					d.ends(x, h, 0, api.ErrVMCall)
				}
			}
		}
		for op, what := range map[api.Op]api.What{api.OpJoin: api.StepJoin, api.OpLock: api.StepLock, api.OpUnlock: api.StepUnlock} {
			x := d.behind([]api.Word{w}, do(op))
			switch {
			case w != number(3) && w != number(-1):
				d.ends(x, h, 0, api.ErrWordKind)
			case op == api.OpJoin:
				d.steps(x, h, api.Event{What: what, Other: int(int64(w) >> 4), New: number(1)})
				d.ends(x, h, number(1), api.OK)
			default:
				d.steps(x, h, api.Event{What: what, Other: int(int64(w) >> 4)})
				d.ends(x, h, nothing(), api.OK)
			}
		}
	}
}

// TestAnyWord: the instructions that ask for no kind take each word.
func TestAnyWord(t *testing.T) {
	d := desk{t}
	for _, w := range kindsOfWords() {
		h := &shelf{fixed{w: number(77), yes: true, number: 4}, refs()}
		d.ends(d.behind([]api.Word{w}, do(api.OpReturn)), h, w, api.OK)
		d.ends(d.behind([]api.Word{w}, do(api.OpPop)), h, number(9), api.OK)
		want := number(1)
		if w == sole(api.TagFalse) {
			want = number(2)
		}
		d.ends(d.behind([]api.Word{w}, do(api.OpBranch)), h, want, api.OK)
		x := d.behind([]api.Word{w}, do(api.OpSetGlobal, 5))
		d.steps(x, h, api.Event{What: api.StepSetGlobal, Other: 5, Old: number(77), New: w})
		d.ends(x, h, nothing(), api.OK)
		x = d.behind([]api.Word{w}, do(api.OpSetVar, 0))
		d.steps(x, h, api.Event{What: api.StepStore, Cell: 8, Old: number(77), New: w})
		d.ends(x, h, nothing(), api.OK)
		x = d.behind([]api.Word{w}, prim(api.PrimBox))
		d.steps(x, h, allocs(4, w, nilWord()))
		for _, v := range kindsOfWords() {
			x = d.behind([]api.Word{w, v}, prim(api.PrimCons))
			d.steps(x, h, allocs(4, w, v))
		}
	}
}

// TestEveryWordInEveryPlace: each instruction and each primitive, with each word in each of its places, and each in what the
// accesses tell, beside the chapter once more.
func TestEveryWordInEveryPlace(t *testing.T) {
	m := newMet()
	var all []api.Instr
	for p := api.PrimCons; p <= api.PrimError; p++ {
		all = append(all, prim(p))
	}
	for _, op := range []api.Op{api.OpReturn, api.OpSpawn, api.OpJoin, api.OpLock, api.OpUnlock, api.OpPop} {
		all = append(all, do(op))
	}
	for n := range 3 {
		all = append(all, do(api.OpCall, n), do(api.OpTail, n), do(api.OpVar, n), do(api.OpSetVar, n), do(api.OpGlobal, n), do(api.OpSetGlobal, n))
	}
	for _, i := range all {
		tells := append(kindsOfWords(), 0, 1<<62)
		if takes(i) > 1 {
			tells = []api.Word{number(1), number(2), nilWord(), pairRef(), 0}
		}
		for _, l := range tuples(takes(i)) {
			for _, told := range tells {
				for n, e := range []api.Errno{api.OK, api.OK, api.ErrWordKind} {
					everyWord(t, i, l, fixed{w: told, yes: n == 0, number: 4, shaded: []int{n}, e: e}, m)
				}
			}
		}
		if t.Failed() {
			t.Fatal(i)
		}
	}
	if m.spent < 30000 {
		t.Error(m.spent)
	}
}

// takes is how many words an instruction takes.
func takes(i api.Instr) int {
	switch i.Op {
	case api.OpPrim:
		return arguments(api.Prim(i.A))
	case api.OpCall, api.OpTail:
		return i.A + 1
	case api.OpVar, api.OpGlobal:
		return 0
	}
	return 1
}

// tuples are the tuples of so many words; of three each word stands in each place beside some others.
func tuples(n int) [][]api.Word {
	l := [][]api.Word{nil}
	for at := range n {
		kinds := kindsOfWords()
		if at == 2 {
			kinds = []api.Word{number(3), nilWord(), closureRef()}
		}
		var longer [][]api.Word
		for _, head := range l {
			for _, w := range kinds {
				longer = append(longer, append(slices.Clone(head), w))
			}
		}
		l = longer
	}
	return l
}

// everyWord goes through an instruction behind these words, and through what follows, beside the chapter once more.
func everyWord(t *testing.T, i api.Instr, l []api.Word, f fixed, m *met) {
	t.Helper()
	out, _ := laid(l...)
	out = append(out, i)
	if i.Op == api.OpPop {
		out = append(out, lay(number(9)))
	}
	if i.Op != api.OpReturn && i.Op != api.OpTail {
		out = append(out, do(api.OpReturn))
	}
	c := coded(proc(0, out...), proc(1, do(api.OpVar, 1), do(api.OpReturn)), proc(2, do(api.OpVar, 0), do(api.OpReturn)), proc(0, lay(number(2)), do(api.OpReturn)))
	envs := []api.Word{pairRef(), nilWord(), boxRef()}
	if i.Op != api.OpVar && i.Op != api.OpSetVar {
		envs = envs[:1]
	}
	for _, env := range envs {
		b := newBoth(t, c, env, &shelf{f, refs()}, &shelf{f, refs()})
		ok := true
		for left := 8; left > 0 && ok; left-- {
			if b.x.Ended().Ended {
				left = min(left, 1)
			}
			ok = b.step()
			m.spent++
		}
		b.p.stop()
		if !ok {
			t.Fatal(i, l, env, f)
		}
	}
}

// TestWhatIsNoWord: a heap may tell what is no word: it is of no kind, and counts as true.
func TestWhatIsNoWord(t *testing.T) {
	d := desk{t}
	yes, no := sole(api.TagTrue), sole(api.TagFalse)
	for _, w := range []api.Word{0, 17, 18, 20, 9, 15, 16, 1 << 63, 1<<64 - 1, 8 | 1<<35} {
		end := func(want api.Word, e api.Errno, l ...api.Instr) {
			t.Helper()
			x := d.main(append([]api.Instr{do(api.OpGlobal, 0)}, append(l, do(api.OpReturn))...)...)
			h := &fixed{w: w}
			d.steps(x, h, finds(0, w))
			d.roots(x, w, nilWord())
			d.ends(x, h, want, e)
		}
		end(w, api.OK)
		end(no, api.OK, prim(api.PrimIsNull))
		end(no, api.OK, prim(api.PrimIsPair))
		end(no, api.OK, prim(api.PrimIsInt))
		end(no, api.OK, prim(api.PrimNot))
		end(no, api.OK, lay(nilWord()), prim(api.PrimEq))
		end(0, api.ErrWordKind, lay(number(1)), prim(api.PrimPlus))
		end(0, api.ErrWordKind, prim(api.PrimCar))
		end(0, api.ErrWordKind, prim(api.PrimUnbox))
		end(0, api.ErrWordKind, do(api.OpJoin))
		end(0, api.ErrVMCall, do(api.OpCall, 0))
		end(0, api.ErrVMCall, do(api.OpSpawn))
		x := d.main(do(api.OpGlobal, 0), do(api.OpBranch, 4), lay(yes), do(api.OpReturn), lay(no), do(api.OpReturn))
		d.skips(x, &fixed{w: w}, api.StepGlobal)
		d.ends(x, &fixed{}, yes, api.OK)
	}
}
