package world_test

import (
	"fmt"
	"slices"
	"testing"

	"dapple/api"
)

// A scene is one access of thread 1, in one of the states of a cycle, with cells of chosen colours in the place of what it
// overwrites and of what it lays.

// target is where the access goes.
type target int

const (
	setCar target = iota
	setCdr
	setBox
	setVar
	setGlobal
	casYes
	casNo
	fillPair
	fillBox
	fillClosure
	targets
)

// state is where the cycle is, and whether the thread is scanned.
type state int

const (
	idle state = iota
	asked
	unscanned // while roots are laid
	scanned   // while roots are laid
	marking
	sweeping // nothing is swept
	swept    // all is swept, but the cycle has not come to its end
	states
)

// hue is what a word is: no reference, or one to a cell of that colour while roots are laid and cells marked; or the same word
// as the other one.
type hue int

const (
	plainWord hue = iota
	whiteCell
	greyCell
	blackCell
	sameCell
	hues
)

type scene struct {
	target
	state
	old, next hue
}

// The globals of a scene: a cell that is met first, cells that are grey once these are laid, cells that are made in the cycle,
// and the one that is laid over.
const (
	firstGlobal = iota
	greyOld
	greyNext
	blackOld
	blackNext
	laidOver
	sceneGlobals
)

// pause is a breath, so that others can be picked there.
func pause() []api.Instr { return one(do(api.OpYield), do(api.OpPop)) }

// newPair makes a pair of n and nil.
func newPair(n int64) []api.Instr { return one(layInt(n), layNil(), prim(api.PrimCons)) }

// pairInto makes one, and lays it into a global.
func pairInto(global int, n int64) []api.Instr {
	return append(newPair(n), do(api.OpSetGlobal, global), do(api.OpPop))
}

// The variables of a scene's procedure, by how many places up they are: a pair of two white cells, what is laid into, and a
// variable to lay over.
const (
	overVar = iota
	intoVar
	whitesVar
)

// pushOld pushes what is to be laid first; pushNext what is laid over it.
func (s scene) pushOld() []api.Instr {
	switch s.old {
	case whiteCell:
		return one(do(api.OpVar, whitesVar), prim(api.PrimCar))
	case greyCell:
		return one(do(api.OpGlobal, greyOld))
	case blackCell:
		return one(do(api.OpGlobal, blackOld))
	}
	return one(layInt(9))
}

func (s scene) pushNext() []api.Instr {
	switch s.next {
	case whiteCell:
		return one(do(api.OpVar, whitesVar), prim(api.PrimCdr))
	case greyCell:
		return one(do(api.OpGlobal, greyNext))
	case blackCell:
		return one(do(api.OpGlobal, blackNext))
	case sameCell:
		return s.pushSame()
	}
	return one(layInt(10))
}

// pushSame pushes what is to be laid over, or beside which it is to be laid.
func (s scene) pushSame() []api.Instr {
	switch s.target {
	case setCar:
		return one(do(api.OpVar, intoVar), prim(api.PrimCar))
	case setCdr:
		return one(do(api.OpVar, intoVar), prim(api.PrimCdr))
	case setBox, casYes, casNo:
		return one(do(api.OpVar, intoVar), prim(api.PrimUnbox))
	case setVar:
		return one(do(api.OpVar, overVar))
	case setGlobal:
		return one(do(api.OpGlobal, laidOver))
	}
	return s.pushOld()
}

// access is what lays the word that is pushed by these instructions.
func (s scene) access(push []api.Instr) []api.Instr {
	into := one(do(api.OpVar, intoVar))
	switch s.target {
	case setCar:
		return some(into, push, one(prim(api.PrimSetCar)))
	case setCdr:
		return some(into, push, one(prim(api.PrimSetCdr)))
	case setBox:
		return some(into, push, one(prim(api.PrimSetBox)))
	case setVar:
		return some(push, one(do(api.OpSetVar, overVar)))
	case setGlobal:
		return some(push, one(do(api.OpSetGlobal, laidOver)))
	case casYes:
		return some(into, into, one(prim(api.PrimUnbox)), push, one(prim(api.PrimCas)))
	case casNo:
		return some(into, one(layInt(29)), push, one(prim(api.PrimCas)))
	case fillPair:
		return some(s.pushOld(), push, one(prim(api.PrimCons)))
	case fillBox:
		return some(s.pushOld(), one(prim(api.PrimBox)))
	}
	return one(do(api.OpClosure, 1))
}

// isFill tells whether the access fills a new cell.
func (s scene) isFill() bool { return s.target >= fillPair }

// what is the step that the access is.
func (s scene) what() api.What {
	switch {
	case s.isFill():
		return api.StepAlloc
	case s.target == setGlobal:
		return api.StepSetGlobal
	case s.target == casYes || s.target == casNo:
		return api.StepCas
	}
	return api.StepStore
}

// atFirst is what the place holds ahead of the cycle: what is to be overwritten, if that is to be met white or grey then.
func (s scene) atFirst() []api.Instr {
	switch s.old {
	case whiteCell:
		return newPair(5)
	case greyCell:
		return one(do(api.OpGlobal, greyOld))
	}
	return one(layInt(9))
}

// holder makes what is laid into.
func (s scene) holder() []api.Instr {
	switch s.target {
	case setCdr:
		return some(one(layNil()), s.atFirst(), one(prim(api.PrimCons)))
	case setBox, casYes, casNo:
		return some(s.atFirst(), one(prim(api.PrimBox)))
	}
	return some(s.atFirst(), one(layNil(), prim(api.PrimCons)))
}

// relays tells whether what is to be overwritten must be laid behind the thread's scan, as it would be grey else: a global is
// laid ahead of that.
func (s scene) relays() bool {
	return s.target == setGlobal && s.old == whiteCell && s.state >= scanned
}

// code is the scene's: the first procedure makes all that is there ahead of the cycle, and calls the second one; the third one
// is that of a thread that holds the collector up.
func (s scene) code() []api.Proc {
	first := some(pairInto(firstGlobal, 0), pairInto(greyOld, 1), pairInto(greyNext, 2),
		s.atFirst(), one(do(api.OpSetGlobal, laidOver), do(api.OpPop)),
		one(do(api.OpClosure, 1)),
		newPair(3), newPair(4), one(prim(api.PrimCons)),
		s.holder(),
		s.atFirst(),
		one(do(api.OpTail, 3)))
	second := some(pause(), pairInto(blackOld, 7), pairInto(blackNext, 8))
	if s.old == blackCell && !s.isFill() {
		ahead := s
		if s.target == casNo {
			ahead.target = setBox
		}
		second = some(second, ahead.access(one(do(api.OpGlobal, blackOld))), one(do(api.OpPop)))
	}
	second = append(second, pause()...)
	if s.relays() {
		second = some(second, s.access(s.pushOld()), one(do(api.OpPop)))
	}
	second = some(second, pause(), s.access(s.pushNext()))
	end := len(second) + 1
	second = some(second, one(do(api.OpPop)), pause(), one(do(api.OpJump, end)))
	return []api.Proc{proc(0, first...), proc(3, second...), turning()}
}

// set brings a desk to where the access is the next step of its kind.
func (s scene) set(t *testing.T) desk {
	t.Helper()
	d := newDesk(t, 40, 0, sceneGlobals, s.code()...)
	d.starts(0, 2)
	d.till(1, api.StepBreath)
	if s.state == asked {
		d.collects()
	}
	if s.state >= unscanned {
		d.collects()
		d.skips(0, api.StepBegin, api.StepRoot, api.StepRoot, api.StepRoot)
	}
	d.till(1, api.StepBreath)
	if s.state >= scanned {
		d.skips(0, api.StepRoot, api.StepRoot, api.StepRoot, api.StepAsk)
		d.skips(1, api.StepAck)
		d.skips(0, api.StepAsk)
	}
	if s.state >= marking {
		d.skips(2, api.StepAck)
		d.goes(0, scans(0))
	}
	d.till(1, api.StepBreath)
	if s.state >= sweeping {
		d.till(0, api.StepCheck)
	}
	if s.state == swept {
		d.skips(0, slices.Repeat([]api.What{api.StepSweep}, 40)...)
	}
	return d
}

// phase is what the scene is to be in.
func (s scene) phase() api.Phase {
	switch s.state {
	case idle, asked:
		return api.PhaseIdle
	case unscanned, scanned:
		return api.PhaseRoots
	case marking:
		return api.PhaseMark
	}
	return api.PhaseSweep
}

// fits sees that the cells have the colours that they are to have, so that the scene is the one that was meant.
func (s scene) fits(t *testing.T, v api.View, e api.Event) {
	t.Helper()
	if v.Phase != s.phase() || v.Lanes[0].Scanned != (s.state != unscanned) {
		t.Fatalf("%+v: phase %d, scanned %t", s, v.Phase, v.Lanes[0].Scanned)
	}
	if !isOn(v.Phase) {
		return
	}
	want := [...]api.Colour{plainWord: none, whiteCell: api.White, greyCell: api.Grey, blackCell: api.Black}
	next := s.next
	if next == sameCell {
		next = s.old
	}
	switch {
	case s.target == fillClosure:
		return
	case s.target == casNo:
		next = s.old
	case s.target == fillBox:
		next = plainWord
	}
	if a, b := colourOf(v.Cells, e.Old), colourOf(v.Cells, e.New); a != want[s.old] || b != want[next] {
		t.Fatalf("%+v: colours %d, %d (%+v)", s, a, b, e)
	}
}

// shades is what the access is to shade, as DOC.md says it.
func (s scene) shades(v api.View, e api.Event) []int {
	var l []api.Word
	switch {
	case s.state == unscanned && s.target != casNo:
		l = []api.Word{e.Old, e.New}
	case (s.state == scanned || s.state == marking) && !s.isFill() && s.target != casNo:
		l = []api.Word{e.Old}
	}
	var out []int
	for _, w := range l {
		if colourOf(v.Cells, w) == api.White && !slices.Contains(out, cellOf(w)) {
			out = append(out, cellOf(w))
		}
	}
	return out
}

// birth is the colour of a cell that is filled there.
func (s scene) birth() api.Colour {
	switch s.state {
	case idle, asked, swept:
		return api.White
	}
	return api.Black
}

// behind is the heap behind the access.
func (s scene) behind(v api.View, e api.Event, shaded []int) []api.Cell {
	h := slices.Clone(v.Cells)
	switch {
	case s.isFill():
		k := [...]api.Kind{fillPair: api.KindPair, fillBox: api.KindBox, fillClosure: api.KindClosure}[s.target]
		h[e.Cell] = api.Cell{Kind: k, Colour: s.birth(), A: e.Old, B: e.New}
	case s.target == setCdr:
		h[e.Cell].B = e.New
	case s.target != setGlobal:
		h[e.Cell].A = e.New
	}
	for _, cell := range shaded {
		h[cell].Colour = api.Grey
	}
	return h
}

// scenes are all that can be told apart.
func scenes() []scene {
	var l []scene
	for n := range int(targets) * int(states) * int(hues) * int(hues) {
		s := scene{target(n % int(targets)), state(n / int(targets) % int(states)), hue(n / int(targets) / int(states) % int(hues)), hue(n / int(targets) / int(states) / int(hues))}
		if s.old == sameCell || s.target >= fillBox && s.next != plainWord || s.target == fillClosure && s.old != plainWord {
			continue
		}
		l = append(l, s)
	}
	return l
}

// TestBarrier: each access that lays a word, in each state, with each colour of what it overwrites and lays: its event, what it
// shades, and all cells behind it.
func TestBarrier(t *testing.T) {
	shaded := 0
	for _, s := range scenes() {
		d := s.set(t)
		v := d.View()
		e := d.pick(1)
		for range 20 {
			if e.What == s.what() {
				break
			}
			v, e = d.View(), d.pick(1)
		}
		if e.What != s.what() || e.Err != api.OK || e.Yes != (s.target == casYes) {
			t.Fatalf("%+v: %+v", s, e)
		}
		s.fits(t, v, e)
		want := s.shades(v, e)
		if !slices.Equal(e.Shaded, want) {
			t.Errorf("%+v: %+v, not shaded %v", s, e, want)
		}
		is := d.View()
		if h := s.behind(v, e, want); !slices.Equal(is.Cells, h) {
			t.Errorf("%+v: %+v: the heap is %v, not %v", s, e, is.Cells, h)
		}
		if g := append(slices.Clone(v.Grey), want...); !slices.Equal(is.Grey, g) {
			t.Errorf("%+v: %+v: grey are %v, not %v", s, e, is.Grey, g)
		}
		shaded += len(want)
	}
	if shaded < 50 {
		t.Error(shaded, "cells were shaded")
	}
}

// TestScenesEnd: whatever is laid where, and in which state: when the cycle has come to its end, what the thread has is there.
func TestScenesEnd(t *testing.T) {
	t.Parallel()
	for _, s := range scenes() {
		d := s.set(t)
		for range 30 {
			d.pick(1)
		}
		d.Settle(300)
		d.phase(api.PhaseIdle, min(1, int(s.state)))
		for n, is := range reached(d.Heap(), func(api.Cell) bool { return true }, d.Roots()...) {
			if is && !isUsed(d.Heap()[n]) {
				t.Fatal(fmt.Sprintf("%+v", s), "cell", n, "is lost")
			}
		}
	}
}
