package graph

import (
	"slices"

	"dapple/api"
	"dapple/words"
)

// What stands in place of a cell that is ahead of another one.
const (
	nobody = -1 // a root names it
	unmet  = -2
)

// walk meets each cell that is reached once: those that the roots name, then, cell by cell as they were met, those that its own words name.
// meet is told the cell and the one that named it first, or nobody.
func walk(h []api.Cell, roots []api.Word, own func(api.Cell) [2]api.Word, meet func(cell, ahead int)) {
	met := make([]bool, len(h))
	var row []int
	look := func(w api.Word, ahead int) {
		cell, ok := words.Cell(w)
		if !ok || met[cell] {
			return
		}
		met[cell] = true
		row = append(row, cell)
		meet(cell, ahead)
	}
	for _, w := range roots {
		look(w, nobody)
	}
	for at := 0; at < len(row); at++ {
		c := h[row[at]]
		if c.Kind == api.KindFree {
			continue
		}
		for _, w := range own(c) {
			look(w, row[at])
		}
	}
}

func asLaid(c api.Cell) [2]api.Word { return [2]api.Word{c.A, c.B} }

// leastFirst: references stand as words in the order of the cells that they name, and other words are not met.
func leastFirst(c api.Cell) [2]api.Word { return [2]api.Word{min(c.A, c.B), max(c.A, c.B)} }

// leastAhead is for each cell the one ahead of it on its least shortest way, nobody, or unmet.
// Where the lesser cell is always met first, cells that are equally far off are met in the order of their least ways: so who names one first is on it.
func leastAhead(h []api.Cell, roots []api.Word) []int {
	ahead := slices.Repeat([]int{unmet}, len(h))
	least := slices.Sorted(slices.Values(roots))
	walk(h, least, leastFirst, func(cell, by int) { ahead[cell] = by })
	return ahead
}

// mover is what turns references to the cells of a row into references to their places in it.
func mover(row []int, cells int) func(api.Word) api.Word {
	places := make([]int, cells)
	for place, cell := range row {
		places[cell] = place
	}
	return func(w api.Word) api.Word {
		if cell, ok := words.Cell(w); ok {
			return words.Ref(places[cell])
		}
		return w
	}
}

// formed is a cell as it stands in a heap of what is reached alone.
func formed(c api.Cell, moved func(api.Word) api.Word) api.Cell {
	if c.Kind == api.KindFree {
		return api.Cell{}
	}
	return api.Cell{Kind: c.Kind, A: moved(c.A), B: moved(c.B)}
}
