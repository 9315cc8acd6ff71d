package vm

import (
	"dapple/api"
	"dapple/words"
)

func (s *step) constant(a int) {
	s.room()
	s.value(0, s.consts[a])
}

// climb goes a places up the environment, each of them a step; true, when it is there ahead of this step's access. Where it
// has come to is the top of the stack, so that it is among the roots.
func (s *step) climb(a int) bool {
	if s.done == 0 {
		s.room()
		s.push(s.frame().env)
	}
	if s.done == a {
		return true
	}
	cell := s.cell(*s.below(0), api.KindPair, api.ErrVMUnset)
	*s.below(0) = s.load(cell, 1)
	s.done++
	return false
}

func (s *step) variable(a int) {
	if !s.climb(a) {
		return
	}
	cell := s.cell(*s.below(0), api.KindPair, api.ErrVMUnset)
	w := s.load(cell, 0)
	s.mustBeSet(w)
	s.value(1, w)
}

func (s *step) setVariable(a int) {
	if !s.climb(a) {
		return
	}
	cell := s.cell(*s.below(0), api.KindPair, api.ErrVMUnset)
	s.store(cell, 0, *s.below(1))
	s.value(2, sole(api.TagNone))
}

func (s *step) global(a int) {
	s.room()
	w := s.loadGlobal(a)
	s.mustBeSet(w)
	s.value(0, w)
}

func (s *step) setGlobal(a int) {
	s.storeGlobal(a, *s.below(0))
	s.value(1, sole(api.TagNone))
}

// mustBeSet fails, if what a variable or a global has is nothing.
func (s *step) mustBeSet(w api.Word) {
	if w == sole(api.TagNone) {
		s.fail(api.ErrVMUnset)
	}
}

func (s *step) closure(a int) {
	s.room()
	proc, _ := words.Int(int64(a))
	if w := s.alloc(api.KindClosure, proc, s.frame().env); !s.waits() {
		s.value(0, w)
	}
}

func (s *step) drop(int) {
	s.cut(len(s.stack) - 1)
	s.next()
}

func (s *step) jump(a int) { s.goTo(a) }

func (s *step) branch(a int) {
	w := *s.below(0)
	s.drop(0)
	if !words.True(w) {
		s.goTo(a)
	}
}

func (s *step) join(int) {
	if w, now := s.result(s.number()); now {
		s.value(1, w)
	}
}

func (s *step) lock(int) {
	s.take(s.number())
	s.value(1, sole(api.TagNone))
}

func (s *step) unlock(int) {
	s.give(s.number())
	s.value(1, sole(api.TagNone))
}

// number is the integer that the top of the stack must be.
func (s *step) number() int {
	tag, n, _ := words.Of(*s.below(0))
	if tag != api.TagInt {
		s.fail(api.ErrWordKind)
	}
	return int(n)
}

func (s *step) yield(int) {
	s.room()
	s.value(0, sole(api.TagNone))
	s.told.What = api.StepBreath
}
