package model

import (
	"slices"

	"dapple/api"
)

// Ended tells whether a thread has ended, and how.
func (m *Model) Ended(thread int) (api.Ended, api.Errno) { return m.Book.Ended(thread) }

// Globals are the globals' words.
func (m *Model) Globals() []api.Word {
	out := make([]api.Word, len(m.program.Globals))
	for i := range out {
		out[i], _ = m.Book.Global(i)
	}
	return out
}

// Heap is all cells, by their numbers.
func (m *Model) Heap() []api.Cell { return slices.Clone(m.heap) }
