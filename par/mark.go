package par

import (
	"sync/atomic"

	"dapple/api"
	"dapple/atoms"
	"dapple/words"
)

// marking is what workers share while they mark.
type marking struct {
	heap  []api.Cell
	roots []api.Word
	next  *atoms.Ticket // of the roots
	// colours are the cells' own for this marking: what colours the heap has does not matter.
	colours []atomic.Uint32
	grey    chan int
	// open counts the workers that are still at the roots, and the cells that became grey and are not looked into: while it is not 0, something may still become grey.
	open *atoms.Counter
}

// newMarking is one of which all cells are white.
func newMarking(h []api.Cell, workers int, roots []api.Word) *marking {
	return &marking{
		heap:    h,
		roots:   roots,
		next:    atoms.NewTicket(),
		colours: make([]atomic.Uint32, len(h)),
		// A cell becomes grey once, so there is room for all of them: nobody waits with what it has shaded while all others do the same.
		grey: make(chan int, len(h)),
		open: atoms.NewCounter(int64(workers)),
	}
}

// work is one worker's: it shades roots while there are any, then looks into cells while any can still come.
func (m *marking) work() api.Sums {
	var mine api.Sums
	for i := m.next.Take(); i < uint64(len(m.roots)); i = m.next.Take() {
		mine.Greyed += m.shade(m.roots[i])
	}
	m.done()
	for cell := range m.grey {
		if m.turn(cell, api.Grey, api.Black) {
			mine.Scanned++
			mine.Greyed += m.shade(m.heap[cell].A, m.heap[cell].B)
		}
		m.done()
	}
	return mine
}

// shade makes grey what some words name, as far as this worker is the first to do so; how many these are.
func (m *marking) shade(l ...api.Word) int {
	won := 0
	for _, w := range l {
		cell, ok := words.Cell(w)
		if !ok || m.heap[cell].Kind == api.KindFree || !m.turn(cell, api.White, api.Grey) {
			continue
		}
		won++
		// It is counted ahead of being sent: who gets it may be done with it at once.
		m.open.Add(1)
		m.grey <- cell
	}
	return won
}

// turn changes a cell's colour; false: it has another one, or somebody else was first.
func (m *marking) turn(cell int, from, to api.Colour) bool {
	return m.colours[cell].CompareAndSwap(uint32(from), uint32(to))
}

// done says that one of what was open is no more; whoever was the last one sends all workers home.
func (m *marking) done() {
	if m.open.Add(-1) == 0 {
		close(m.grey)
	}
}

// live tells of each cell whether it was looked into, when all workers have ended.
func (m *marking) live() []bool {
	out := make([]bool, len(m.colours))
	for i := range out {
		out[i] = m.colours[i].Load() == uint32(api.Black)
	}
	return out
}
