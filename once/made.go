package once

import (
	"slices"

	"dapple/api"
	"dapple/atoms"
)

// Made is what f makes, once for each number, whoever asks; if it panics, all who ask get ErrOncePanic.
func Made(workers, numbers int, f func(n int) int64, asks ...int) ([]int64, []api.Errno, []int) {
	if !mayWork(workers) || numbers < 0 || numbers > most || len(asks) > most {
		return nil, nil, nil
	}
	m := newMaking(numbers, f, asks)
	byMany(workers, len(m.asks), m.ask)
	return m.answers, m.errors, m.calls
}

// making is what workers share while they make numbers.
type making struct {
	f     func(n int) int64
	asks  []int
	onces []*atoms.Once // by numbers
	// What stands at the place of an ask is written by the worker that has taken it alone; how often a number was made, by the
	// one that makes it.
	answers []int64
	errors  []api.Errno
	calls   []int
}

// newMaking is one in which nothing is made.
func newMaking(numbers int, f func(n int) int64, asks []int) *making {
	m := &making{
		f:       f,
		asks:    slices.Clone(asks), // f may have this list, too
		onces:   make([]*atoms.Once, numbers),
		answers: make([]int64, len(asks)),
		errors:  make([]api.Errno, len(asks)),
		calls:   make([]int, numbers),
	}
	for n := range m.onces {
		m.onces[n] = atoms.NewOnce()
	}
	return m
}

// ask makes one ask.
func (m *making) ask(i int) {
	n := m.asks[i]
	if n < 0 || n >= len(m.onces) {
		m.errors[i] = api.ErrOnceForm
		return
	}
	// The error stands there ahead of the call: f may end the goroutine, and then there is no answer.
	m.errors[i] = api.ErrOncePanic
	m.answers[i], _, m.errors[i] = m.onces[n].Do(func() int64 {
		m.calls[n]++
		return m.f(n)
	})
}
