package par

import (
	"dapple/api"
	"dapple/atoms"
)

// strip is how many cells are swept at one go: few enough that workers end together, enough that they seldom meet at the ticket.
const strip = 64

// sweeping is what workers share while they sweep.
type sweeping struct {
	was  []api.Cell
	live []bool
	next *atoms.Ticket // of the strips
	// A strip's cells, here and in freed, are written by who has its ticket alone.
	heap  []api.Cell
	freed [][]int // by strips, so that put one behind the other they rise
}

// newSweeping is one of which nothing is swept, and all cells of the heap to be are free.
func newSweeping(h []api.Cell, live []bool) *sweeping {
	return &sweeping{
		was:   h,
		live:  live,
		next:  atoms.NewTicket(),
		heap:  make([]api.Cell, len(h)),
		freed: make([][]int, (len(h)+strip-1)/strip),
	}
}

// work is one worker's: it sweeps strips while there are any.
func (s *sweeping) work() {
	for i := s.next.Take(); i < uint64(len(s.freed)); i = s.next.Take() {
		from := int(i) * strip
		s.freed[i] = s.sweep(from, min(from+strip, len(s.was)))
	}
}

// sweep sweeps the cells from one up to another one; those that are given back.
func (s *sweeping) sweep(from, to int) []int {
	var freed []int
	for cell := from; cell < to; cell++ {
		c := s.was[cell]
		switch {
		case s.live[cell]:
			s.heap[cell] = api.Cell{Kind: c.Kind, A: c.A, B: c.B}
		case c.Kind != api.KindFree:
			freed = append(freed, cell)
		}
	}
	return freed
}
