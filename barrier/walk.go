package barrier

import (
	"dapple/api"
	"dapple/words"
)

// walk tells of each cell whether it is met: if it is one of those that may be, and something that counts as a source names it, or a cell that is met does.
func walk(v api.View, may func(api.Cell) bool, isSource func(holder) bool) []bool {
	met := make([]bool, len(v.Cells))
	var row []int
	meet := func(cell int) {
		if !met[cell] && may(v.Cells[cell]) {
			met[cell] = true
			row = append(row, cell)
		}
	}
	for cell, is := range named(v, isSource) {
		if is {
			meet(cell)
		}
	}
	for at := 0; at < len(row); at++ {
		c := v.Cells[row[at]]
		for _, w := range [2]api.Word{c.A, c.B} {
			if cell, ok := words.Cell(w); ok {
				meet(cell)
			}
		}
	}
	return met
}

// named tells of each cell whether a holder that counts names it.
func named(v api.View, counts func(holder) bool) []bool {
	out := make([]bool, len(v.Cells))
	for x, held := range holders(v) {
		if !counts(x) {
			continue
		}
		for _, w := range held {
			if cell, ok := words.Cell(w); ok {
				out[cell] = true
			}
		}
	}
	return out
}
