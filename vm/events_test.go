package vm_test

import (
	"slices"
	"testing"

	"dapple/api"
	"dapple/vm"
	"dapple/words"
)

// allErrors are some of all layers' errors, and others.
func allErrors() []api.Errno {
	return []api.Errno{-1, 1, 2, api.ErrWordKind, api.ErrWordOver, api.ErrNoCells, api.ErrVMRaised, api.ErrVMUnset, api.ErrLocksNone, api.ErrLocksTwice, api.ErrLocksNot, api.ErrLocksSelf, api.ErrLocksMuch, 9999}
}

// TestEveryField: each access's event has what was told, and nothing else.
func TestEveryField(t *testing.T) {
	d := desk{t}
	shades := []int{7, 3, 7}
	told := fixed{w: number(77), yes: true, shaded: shades, number: 5}
	none := told
	none.yes = false
	for _, row := range []struct {
		l    []api.Word
		i    api.Instr
		told fixed
		want api.Event
		w    api.Word // what is pushed; 0: nothing yet
	}{
		{[]api.Word{pairRef()}, prim(api.PrimCar), told, api.Event{What: api.StepLoad, Cell: 8, Old: number(77), New: number(77)}, number(77)},
		{[]api.Word{pairRef()}, prim(api.PrimCdr), told, api.Event{What: api.StepLoad, Cell: 8, Field: 1, Old: number(77), New: number(77)}, number(77)},
		{[]api.Word{boxRef()}, prim(api.PrimUnbox), told, api.Event{What: api.StepLoad, Cell: 13, Old: number(77), New: number(77)}, number(77)},
		{[]api.Word{pairRef(), number(6)}, prim(api.PrimSetCar), told, api.Event{What: api.StepStore, Cell: 8, Old: number(77), New: number(6), Shaded: shades}, nothing()},
		{[]api.Word{pairRef(), number(6)}, prim(api.PrimSetCdr), told, api.Event{What: api.StepStore, Cell: 8, Field: 1, Old: number(77), New: number(6), Shaded: shades}, nothing()},
		{[]api.Word{boxRef(), number(6)}, prim(api.PrimSetBox), told, api.Event{What: api.StepStore, Cell: 13, Old: number(77), New: number(6), Shaded: shades}, nothing()},
		{[]api.Word{number(6)}, do(api.OpSetVar, 0), told, api.Event{What: api.StepStore, Cell: 8, Old: number(77), New: number(6), Shaded: shades}, nothing()},
		{[]api.Word{boxRef(), number(1), number(2)}, prim(api.PrimCas), told, api.Event{What: api.StepCas, Cell: 13, Old: number(77), New: number(2), Yes: true, Shaded: shades}, sole(api.TagTrue)},
		{[]api.Word{boxRef(), number(1), number(2)}, prim(api.PrimCas), none, api.Event{What: api.StepCas, Cell: 13, Old: number(77), New: number(77), Shaded: shades}, sole(api.TagFalse)},
		{[]api.Word{boxRef(), number(6)}, prim(api.PrimAdd), told, api.Event{What: api.StepAdd, Cell: 13, Old: number(71), New: number(77)}, number(77)},
		{[]api.Word{number(1), number(2)}, prim(api.PrimCons), told, api.Event{What: api.StepAlloc, Cell: 5, Old: number(1), New: number(2), Shaded: shades}, words.Ref(5)},
		{[]api.Word{number(1)}, prim(api.PrimBox), told, api.Event{What: api.StepAlloc, Cell: 5, Old: number(1), New: nilWord(), Shaded: shades}, words.Ref(5)},
		{nil, do(api.OpClosure, 2), told, api.Event{What: api.StepAlloc, Cell: 5, Old: number(2), New: pairRef(), Shaded: shades}, words.Ref(5)},
		{[]api.Word{number(1)}, prim(api.PrimBox), fixed{}, api.Event{What: api.StepWait}, 0},
		{nil, do(api.OpVar, 0), told, api.Event{What: api.StepLoad, Cell: 8, Old: number(77), New: number(77)}, number(77)},
		{[]api.Word{number(6)}, do(api.OpSetGlobal, 7), told, api.Event{What: api.StepSetGlobal, Other: 7, Old: number(77), New: number(6), Shaded: shades}, nothing()},
		{[]api.Word{number(6)}, do(api.OpJoin), told, api.Event{What: api.StepJoin, Other: 6, New: number(77)}, number(77)},
		{[]api.Word{number(6)}, do(api.OpJoin), none, api.Event{What: api.StepWaitJoin, Other: 6}, 0},
		{[]api.Word{number(6)}, do(api.OpLock), told, api.Event{What: api.StepLock, Other: 6}, nothing()},
		{[]api.Word{number(6)}, do(api.OpLock), none, api.Event{What: api.StepWaitLock, Other: 6}, nothing()},
		{[]api.Word{number(6)}, do(api.OpUnlock), told, api.Event{What: api.StepUnlock, Other: 6}, nothing()},
	} {
		x := d.behind(row.l, row.i)
		d.steps(x, &shelf{row.told, refs()}, row.want)
		d.goesOn(x)
		if row.w != 0 {
			d.roots(x, row.w, pairRef())
		}
	}
}

// TestGlobalsField: the global that is asked.
func TestGlobalsField(t *testing.T) {
	d := desk{t}
	for i := range 8 {
		d.steps(d.main(do(api.OpGlobal, i), do(api.OpReturn)), &fixed{w: number(77), shaded: []int{1}}, finds(i, number(77)))
	}
}

// TestErrorsOfAccesses: each error that an access tells is the event's, and the thread's; words and what else was told are not.
func TestErrorsOfAccesses(t *testing.T) {
	d := desk{t}
	for _, e := range allErrors() {
		for _, now := range []bool{false, true} {
			h := &shelf{fixed{w: number(2), yes: now, number: 5, shaded: []int{1}, e: e}, refs()}
			d.fails(d.behind([]api.Word{boxRef(), number(6)}, prim(api.PrimAdd)), h, api.Event{What: api.StepAdd, Cell: 13, Err: e})
			d.fails(d.behind([]api.Word{boxRef(), nilWord()}, prim(api.PrimAdd)), h, api.Event{What: api.StepAdd, Cell: 13, Err: e})
			d.fails(d.behind([]api.Word{number(6)}, do(api.OpJoin)), h, api.Event{What: api.StepJoin, Other: 6, Err: e})
			d.fails(d.behind([]api.Word{number(6)}, do(api.OpLock)), h, api.Event{What: api.StepLock, Other: 6, Err: e})
			d.fails(d.behind([]api.Word{number(6)}, do(api.OpUnlock)), h, api.Event{What: api.StepUnlock, Other: 6, Err: e})
			h.w = number(1)
			x := d.behind([]api.Word{closureRef()}, do(api.OpSpawn))
			d.steps(x, h, loads(18, 0, number(1)), loads(18, 1, number(1)))
			d.fails(x, h, api.Event{What: api.StepSpawn, Err: e})
		}
	}
}

// TestNumbersAsTheyAre: a thread's and a lock's number is handed on as it is, whatever it is.
func TestNumbersAsTheyAre(t *testing.T) {
	d := desk{t}
	for _, n := range []int64{-1 << 59, -1, 0, 1, 8, 9, 1<<59 - 1} {
		for _, op := range []api.Op{api.OpJoin, api.OpLock, api.OpUnlock} {
			h := &notes{teller: &fixed{w: number(2), yes: true}}
			x := d.main(lay(number(n)), do(op), do(api.OpReturn))
			if got := x.Step(h); got.Other != int(n) || got.Err != api.OK {
				t.Errorf("%+v", got)
			}
			if got := h.taken(); len(got) != 1 || got[0].numbers[0] != int(n) {
				t.Error(got)
			}
		}
	}
}

// TestAddTellsWhatStoodThere: it follows from the sum; where no number can have stood there, it is 0.
func TestAddTellsWhatStoodThere(t *testing.T) {
	d := desk{t}
	for _, row := range []struct{ n, sum, old api.Word }{
		{number(6), number(77), number(71)},
		{number(-1), number(0), number(1)},
		{number(0), number(-1 << 59), number(-1 << 59)},
		{number(1<<59 - 1), number(-1), number(-1 << 59)},
		{number(1), number(-1 << 59), 0},
		{nilWord(), number(5), 0},
		{number(1), nilWord(), 0},
		{number(1), 0, 0},
	} {
		x := d.behind([]api.Word{boxRef(), row.n}, prim(api.PrimAdd))
		d.steps(x, &shelf{fixed{w: row.sum}, refs()}, api.Event{What: api.StepAdd, Cell: 13, Old: row.old, New: row.sum})
		d.ends(x, &fixed{}, row.sum, api.OK)
	}
}

// TestWhatIsHandedToAccesses: each is handed what stands on the stack, and nothing else.
func TestWhatIsHandedToAccesses(t *testing.T) {
	d := desk{t}
	for _, row := range []struct {
		l    []api.Word
		i    api.Instr
		want call
	}{
		{[]api.Word{pairRef()}, prim(api.PrimCar), call{"Load", []int{8, 0}, nil}},
		{[]api.Word{pairRef()}, prim(api.PrimCdr), call{"Load", []int{8, 1}, nil}},
		{[]api.Word{boxRef()}, prim(api.PrimUnbox), call{"Load", []int{13, 0}, nil}},
		{[]api.Word{pairRef(), boxRef()}, prim(api.PrimSetCar), call{"Store", []int{8, 0}, []api.Word{boxRef()}}},
		{[]api.Word{pairRef(), boxRef()}, prim(api.PrimSetCdr), call{"Store", []int{8, 1}, []api.Word{boxRef()}}},
		{[]api.Word{boxRef(), pairRef()}, prim(api.PrimSetBox), call{"Store", []int{13, 0}, []api.Word{pairRef()}}},
		{[]api.Word{boxRef(), pairRef(), closureRef()}, prim(api.PrimCas), call{"Cas", []int{13}, []api.Word{pairRef(), closureRef()}}},
		{[]api.Word{boxRef(), number(4)}, prim(api.PrimAdd), call{"Add", []int{13}, []api.Word{number(4)}}},
		{[]api.Word{boxRef(), pairRef()}, prim(api.PrimCons), call{"Alloc", []int{int(api.KindPair)}, []api.Word{boxRef(), pairRef()}}},
		{[]api.Word{pairRef()}, prim(api.PrimBox), call{"Alloc", []int{int(api.KindBox)}, []api.Word{pairRef(), nilWord()}}},
		{nil, do(api.OpClosure, 1), call{"Alloc", []int{int(api.KindClosure)}, []api.Word{number(1), pairRef()}}},
		{nil, do(api.OpGlobal, 3), call{"Global", []int{3}, nil}},
		{[]api.Word{boxRef()}, do(api.OpSetGlobal, 3), call{"SetGlobal", []int{3}, []api.Word{boxRef()}}},
		{[]api.Word{boxRef()}, do(api.OpSetVar, 0), call{"Store", []int{8, 0}, []api.Word{boxRef()}}},
		{nil, do(api.OpVar, 0), call{"Load", []int{8, 0}, nil}},
		{nil, do(api.OpVar, 1), call{"Load", []int{8, 1}, nil}},
	} {
		x := d.behind(row.l, row.i)
		h := &notes{teller: &shelf{fixed{w: number(1), yes: true}, refs()}}
		x.Step(h)
		got := h.taken()
		if len(got) != 1 || got[0].name != row.want.name || !slices.Equal(got[0].numbers, row.want.numbers) || !slices.Equal(got[0].words, row.want.words) {
			t.Errorf("%v: %v, not %v", row.i, got, row.want)
		}
	}
}

// TestToldNumbersThatAreNone: a cell's and a thread's number that no word has does no harm: what is pushed is no word then.
func TestToldNumbersThatAreNone(t *testing.T) {
	d := desk{t}
	for _, n := range []int{-1, -1 << 63, 1 << 31, 1<<63 - 1} {
		h := &shelf{fixed{w: number(1), yes: true, number: n}, refs()}
		x := d.behind([]api.Word{number(6)}, prim(api.PrimBox))
		d.steps(x, h, allocs(n, number(6), nilWord()))
		d.ends(x, h, 0, api.OK)
	}
	for _, n := range []int{-1 << 63, -1<<59 - 1, 1 << 59, 1<<63 - 1} {
		h := &shelf{fixed{w: number(1), yes: true, number: n}, refs()}
		x := d.behind([]api.Word{closureRef()}, do(api.OpSpawn))
		d.skips(x, h, api.StepLoad, api.StepLoad)
		d.steps(x, h, api.Event{What: api.StepSpawn, Other: n, New: closureRef()})
		d.ends(x, h, 0, api.OK)
	}
}

// TestEndedSteps: whoever has ended does nothing, whatever the heap has.
func TestEndedSteps(t *testing.T) {
	d := desk{t}
	for _, l := range [][]api.Instr{consing(), {lay(number(1)), prim(api.PrimError), do(api.OpReturn)}, {do(api.OpGlobal, 0), do(api.OpReturn)}} {
		x, h := d.main(l...), roomy(nothing())
		for range 9 {
			if x.Step(h); x.Ended().Ended {
				break
			}
		}
		was := x.Ended()
		if !was.Ended {
			t.Fatal("it goes on")
		}
		d.over(x, was.Word, was.Err)
	}
}

// panics panics when it is asked for a global.
type panics struct{ fixed }

func (p *panics) Global(int) api.Word { panic("no globals") }

// TestOthersPanics: only a step's own panic is caught: what a heap panics with is not told as the thread's end.
func TestOthersPanics(t *testing.T) {
	x := desk{t}.main(do(api.OpGlobal, 0), do(api.OpReturn))
	func() {
		defer func() {
			if got := recover(); got != "no globals" {
				t.Error(got)
			}
		}()
		x.Step(&panics{})
	}()
	if x.Ended() != (api.Ended{}) {
		t.Error(x.Ended())
	}
	var _ vm.Accesses = &panics{}
}
