package atoms

import (
	"sync/atomic"

	"dapple/api"
)

// mostNumbers bounds how many numbers a stack may be made for.
const mostNumbers = 65536

// level is a number on a stack, with what stands below it and how many there are up to it. It is never changed once it
// is laid: so whoever has loaded the top has the number, the rest and the count of one moment.
type level struct {
	n     int64
	below *level
	count int
}

// Stack is a stack of at most so many numbers.
type Stack struct {
	most int
	top  atomic.Pointer[level]
}

// NewStack is an empty stack of at most so many numbers.
func NewStack(most int) (*Stack, api.Errno) {
	if !mayHold(most) {
		return nil, api.ErrAtomsForm
	}
	s := &Stack{most: most}
	// The ground counts 0: with it there is always a top to look at.
	s.top.Store(&level{})
	return s, api.OK
}

// mayHold tells whether a stack may be made for so many numbers.
func mayHold(most int) bool { return most >= 0 && most <= mostNumbers }

// Push lays n on top.
func (s *Stack) Push(n int64) api.Errno {
	for {
		top := s.top.Load()
		if top.count >= s.most {
			return api.ErrMuch
		}
		// Each level is new memory: a top that is the same pointer is the same stack.
		if s.top.CompareAndSwap(top, &level{n: n, below: top, count: top.count + 1}) {
			return api.OK
		}
	}
}

// Pop takes the top number away; false: there is none.
func (s *Stack) Pop() (int64, bool) {
	for {
		top := s.top.Load()
		if top.count == 0 {
			return 0, false
		}
		if s.top.CompareAndSwap(top, top.below) {
			return top.n, true
		}
	}
}

// Len is how many stand on it.
func (s *Stack) Len() int { return s.top.Load().count }
