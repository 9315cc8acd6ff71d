package vm

import (
	"dapple/api"
	"dapple/words"
)

// opening is how many accesses take a closure apart.
const opening = 2

// open makes the next of the two loads that take apart the closure that has n arguments above it. Its procedure stands on no
// stack; its environment is pushed. grows is how many frames the instruction will add.
func (s *step) open(n, grows int) {
	if s.done == 0 {
		cell := s.cell(*s.below(n), api.KindClosure, api.ErrVMCall)
		if len(s.frames)+grows > api.MaxFrames {
			s.fail(api.ErrVMFrames)
		}
		s.callee = s.load(cell, 0)
	} else {
		s.mustTake(n)
		s.room()
		cell, _ := words.Cell(*s.below(n))
		s.push(s.load(cell, 1))
	}
	s.done++
}

// mustTake fails, if what is called is no procedure, or not one of n arguments.
func (s *step) mustTake(n int) {
	tag, proc, _ := words.Of(s.callee)
	if tag != api.TagInt || proc < 0 || proc >= int64(len(s.procs)) {
		s.fail(api.ErrVMCall)
	}
	if s.procs[proc].Params != n {
		s.fail(api.ErrVMArgs)
	}
}

// proc is the number of the procedure that is called.
func (s *step) proc() int {
	_, proc, _ := words.Of(s.callee)
	return int(proc)
}

// bind lays the next of n arguments ahead of the environment on the stack's top.
func (s *step) bind(n int) {
	// The arguments stand right below the top, the first one lowest; one is bound by each access behind the opening.
	argument := *s.below(n - (s.done - opening))
	if env := s.alloc(api.KindPair, argument, *s.below(0)); !s.waits() {
		*s.below(0) = env
		s.done++
	}
}

// enter makes the next access of a call; true, if it was the last one.
func (s *step) enter(n, grows int) bool {
	if s.done < opening {
		s.open(n, grows)
	} else {
		s.bind(n)
	}
	return s.done == opening+n
}

// begun is the frame that a call of n arguments begins, with the height at which it has nothing of the call on the stack.
func (s *step) begun(n int) frame {
	return frame{code: s.procs[s.proc()].Code, env: *s.below(0), base: len(s.stack) - opening - n}
}

func (s *step) call(n int) {
	if !s.enter(n, 1) {
		return
	}
	f := s.begun(n)
	s.next()
	s.cut(f.base)
	s.frames = append(s.frames, f)
}

func (s *step) tail(n int) {
	if !s.enter(n, 0) {
		return
	}
	f := s.begun(n)
	f.base = s.frame().base
	s.forget()
	s.cut(f.base)
	*s.frame() = f
}

func (s *step) giveBack(int) {
	w := *s.below(0)
	s.cut(s.frame().base)
	s.frames = s.frames[:len(s.frames)-1]
	if len(s.frames) > 0 {
		s.push(w)
		return
	}
	s.told = api.Event{What: api.StepEnd, New: w}
	s.end(s.told)
}

func (s *step) spawn(int) {
	if s.done < opening {
		s.open(0, 0)
		return
	}
	thread := s.start(*s.below(1), s.proc(), *s.below(0))
	w, _ := words.Int(int64(thread))
	s.value(2, w)
}
