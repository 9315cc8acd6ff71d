package atoms

import (
	"slices"
	"sync"

	"dapple/api"
)

// mostCalls bounds how many calls a storm may have.
const mostCalls = 65536

// sky is one new thing of each sort, the calls of a storm, and which of them is to be made next.
type sky struct {
	counter *Counter
	flag    *Flag
	max     *Max
	ticket  *Ticket
	stack   *Stack

	calls []api.Atom
	next  *Ticket
}

// share is what one worker was answered. Each has its own, so that no two write one thing.
type share struct {
	firsts, refused int
	tickets         []uint64
	popped          []int64
}

// Storm lets so many goroutines do these calls, on one thing of each sort.
func Storm(workers, most int, calls ...api.Atom) (api.Storm, api.Errno) {
	if e := checkStorm(workers, most, calls); e != api.OK {
		return api.Storm{}, e
	}
	stack, e := NewStack(most)
	if e != api.OK {
		return api.Storm{}, e
	}
	s := &sky{
		counter: NewCounter(0), flag: NewFlag(), max: NewMax(0), ticket: NewTicket(), stack: stack,
		calls: calls, next: NewTicket(),
	}
	return s.told(s.blow(workers)), api.OK
}

// checkStorm is what a storm is refused for.
func checkStorm(workers, most int, calls []api.Atom) api.Errno {
	switch {
	case workers < 1 || workers > api.MaxWorkers:
		return api.ErrArg
	case !mayHold(most):
		return api.ErrAtomsForm
	case len(calls) > mostCalls:
		return api.ErrMuch
	}
	pushes := 0
	for _, c := range calls {
		if c.Kind < api.AtomAdd || c.Kind > api.AtomPop {
			return api.ErrAtomsForm
		}
		if c.Kind == api.AtomPush {
			pushes++
		}
	}
	// With room for all of them no push can be refused, whoever comes first.
	if pushes > most {
		return api.ErrAtomsForm
	}
	return api.OK
}

// blow makes all calls by so many goroutines; what each was answered, when all have ended.
func (s *sky) blow(workers int) []share {
	shares := make([]share, workers)
	var all sync.WaitGroup
	for i := range shares {
		all.Add(1)
		go func() {
			defer all.Done()
			shares[i] = s.work()
		}()
	}
	all.Wait()
	return shares
}

// work makes calls till none is left.
func (s *sky) work() share {
	var mine share
	for i := s.next.Take(); i < uint64(len(s.calls)); i = s.next.Take() {
		s.call(s.calls[i], &mine)
	}
	return mine
}

// call makes one call.
func (s *sky) call(c api.Atom, mine *share) {
	switch c.Kind {
	case api.AtomAdd:
		s.counter.Add(c.N)
	case api.AtomSet:
		if s.flag.Set() {
			mine.firsts++
		} else {
			mine.refused++
		}
	case api.AtomRaise:
		s.max.Raise(c.N)
	case api.AtomTake:
		mine.tickets = append(mine.tickets, s.ticket.Take())
	case api.AtomPush:
		s.stack.Push(c.N)
	case api.AtomPop:
		if n, ok := s.stack.Pop(); ok {
			mine.popped = append(mine.popped, n)
		}
	}
}

// told is what came of the storm: put together and sorted, it tells nothing of who came first.
func (s *sky) told(shares []share) api.Storm {
	out := api.Storm{Sum: s.counter.Load(), Most: s.max.Load()}
	for _, one := range shares {
		out.Firsts += one.firsts
		out.Refused += one.refused
		out.Tickets = append(out.Tickets, one.tickets...)
		out.Popped = append(out.Popped, one.popped...)
	}
	for n, ok := s.stack.Pop(); ok; n, ok = s.stack.Pop() {
		out.Popped = append(out.Popped, n)
	}
	slices.Sort(out.Tickets)
	slices.Sort(out.Popped)
	return out
}
