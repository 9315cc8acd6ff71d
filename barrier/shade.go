package barrier

import (
	"slices"

	"dapple/api"
	"dapple/words"
)

// shaded are the cells to shade of some words, each once.
func shaded(h []api.Cell, some ...api.Word) []int {
	var out []int
	for _, w := range some {
		cell, ok := words.Cell(w)
		if ok && cell < len(h) && isWhite(h[cell]) && !slices.Contains(out, cell) {
			out = append(out, cell)
		}
	}
	return out
}

// isOn tells whether the barrier is: while roots are laid and cells marked.
func isOn(p api.Phase) bool { return p == api.PhaseRoots || p == api.PhaseMark }

// isUsed tells whether a cell is not free.
func isUsed(c api.Cell) bool { return c.Kind != api.KindFree }

// isWhite tells whether a cell is white and not free: the colour of a free one does not count.
func isWhite(c api.Cell) bool { return isUsed(c) && c.Colour == api.White }

// isGrey is the same of grey ones.
func isGrey(c api.Cell) bool { return isUsed(c) && c.Colour == api.Grey }
