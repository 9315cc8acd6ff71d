package graph

import (
	"dapple/api"
	"dapple/words"
)

// isHeap tells whether h is a heap that stands still, and its roots are words that fit it.
func isHeap(h []api.Cell, roots []api.Word) bool {
	if e, _ := Check(h); e != api.OK {
		return false
	}
	for _, w := range roots {
		if !isWord(w, len(h)) {
			return false
		}
	}
	return true
}

// isCell tells whether c may be a cell of a heap of so many.
func isCell(c api.Cell, cells int) bool {
	if c.Kind > api.KindClosure || c.Colour > api.Black {
		return false
	}
	// What was left in a free cell may name cells of long ago.
	return c.Kind == api.KindFree || isWord(c.A, cells) && isWord(c.B, cells)
}

// isWord tells whether w is a word and, if it is a reference, names one of so many cells.
func isWord(w api.Word, cells int) bool {
	if _, _, ok := words.Of(w); !ok {
		return false
	}
	cell, isRef := words.Cell(w)
	return !isRef || cell < cells
}
