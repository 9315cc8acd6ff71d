package vm

import (
	"dapple/api"
	"dapple/words"
)

// step is a step while it is gone: whose it is, who does its accesses, and what is told of it. As long as told has no What,
// nothing has happened that a step ends with.
type step struct {
	*Thread
	heap Accesses
	told api.Event
}

// ending is what a step is given up with when its thread ends in the midst of an instruction.
type ending struct {
	told api.Event
}

// caught is the ending that was recovered, if there was one. Any other panic is not this layer's, and goes on.
func caught(recovered any) (ending, bool) {
	end, ok := recovered.(ending)
	if !ok && recovered != nil {
		panic(recovered)
	}
	return end, ok
}

// instructions is what each Op does, with the instruction's A.
func instructions() [api.OpYield + 1]func(*step, int) {
	return [...]func(*step, int){
		api.OpConst:     (*step).constant,
		api.OpVar:       (*step).variable,
		api.OpSetVar:    (*step).setVariable,
		api.OpGlobal:    (*step).global,
		api.OpSetGlobal: (*step).setGlobal,
		api.OpClosure:   (*step).closure,
		api.OpPop:       (*step).drop,
		api.OpJump:      (*step).jump,
		api.OpBranch:    (*step).branch,
		api.OpCall:      (*step).call,
		api.OpTail:      (*step).tail,
		api.OpReturn:    (*step).giveBack,
		api.OpPrim:      (*step).primitive,
		api.OpSpawn:     (*step).spawn,
		api.OpJoin:      (*step).join,
		api.OpLock:      (*step).lock,
		api.OpUnlock:    (*step).unlock,
		api.OpYield:     (*step).yield,
	}
}

// begin is what a thread that waited for a cell comes back with: its end, or nothing, as it asks again.
func (s *step) begin() {
	if s.refused {
		s.fail(api.ErrNoCells)
	}
	s.request = nil
}

// run goes through instructions till something has happened.
func (s *step) run() {
	does := instructions()
	for range api.MaxBreath {
		f := s.frame()
		in := f.code[f.at]
		does[in.Op](s, in.A)
		if s.told.What != 0 {
			return
		}
	}
	s.told.What = api.StepBreath
}

// fail gives the step up: its thread ends by e. The access tells it, if there was one, and else an end of its own.
func (s *step) fail(e api.Errno) {
	told := s.told
	if told.What == 0 {
		told.What = api.StepEnd
	}
	told.Old, told.New, told.Err = 0, 0, e
	panic(ending{told})
}

// mind fails, if e is an error.
func (s *step) mind(e api.Errno) {
	if e != api.OK {
		s.fail(e)
	}
}

// frame is the one at hand.
func (s *step) frame() *frame { return &s.frames[len(s.frames)-1] }

// below is the word of the stack that has so many above it.
func (s *step) below(above int) *api.Word { return &s.stack[len(s.stack)-1-above] }

// room fails, if no word can be pushed any more.
func (s *step) room() {
	if len(s.stack) == api.MaxStack {
		s.fail(api.ErrVMStack)
	}
}

// push lays a word on the stack, for which there must be room.
func (s *step) push(w api.Word) { s.stack = append(s.stack, w) }

// cut takes words from the stack's top till it is so high.
func (s *step) cut(height int) { s.stack = s.stack[:height] }

// goTo ends the instruction at hand: the frame goes on at that place.
func (s *step) goTo(place int) {
	s.frame().at = place
	s.forget()
}

// next ends the instruction at hand: the frame goes on behind it.
func (s *step) next() { s.goTo(s.frame().at + 1) }

// forget drops how far the instruction at hand has gone.
func (s *step) forget() { s.done, s.callee = 0, 0 }

// value ends the instruction at hand: the words that it takes go, and its value is pushed. Of one that takes none there must
// be room for it.
func (s *step) value(takes int, w api.Word) {
	s.cut(len(s.stack) - takes)
	s.push(w)
	s.next()
}

// cell is the cell of that kind that a word must refer to; e, if it does not.
func (s *step) cell(w api.Word, k api.Kind, e api.Errno) int {
	cell, ok := words.Cell(w)
	if !ok || s.heap.Kind(cell) != k {
		s.fail(e)
	}
	return cell
}

// sole is the word of a tag that has one alone.
func sole(t api.Tag) api.Word {
	w, _ := words.Make(t, 0)
	return w
}

// truth is the word of a bool.
func truth(is bool) api.Word {
	if is {
		return sole(api.TagTrue)
	}
	return sole(api.TagFalse)
}
