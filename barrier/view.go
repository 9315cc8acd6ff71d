package barrier

import (
	"iter"
	"slices"

	"dapple/api"
	"dapple/words"
)

// sort is what a holder is.
type sort uint8

const (
	cellHolder sort = iota
	globalHolder
	laneHolder
)

// holder is something of a view that names cells by its words: a cell that is not free, a global, a lane, by its place.
type holder struct {
	sort sort
	at   int
}

// holders are all of a view, each with its words.
func holders(v api.View) iter.Seq2[holder, []api.Word] {
	return func(yield func(holder, []api.Word) bool) {
		for i, c := range v.Cells {
			if isUsed(c) && !yield(holder{cellHolder, i}, []api.Word{c.A, c.B}) {
				return
			}
		}
		for i, w := range v.Globals {
			if !yield(holder{globalHolder, i}, []api.Word{w}) {
				return
			}
		}
		for i, l := range v.Lanes {
			if !yield(holder{laneHolder, i}, l.Roots) {
				return
			}
		}
	}
}

// colourOf is what the collector makes of a holder. Globals and lanes have no colour of their own, but to it they are as cells: grey is what it will look into, black what it has passed.
func colourOf(v api.View, x holder) api.Colour {
	switch {
	case x.sort == cellHolder:
		return v.Cells[x.at].Colour
	case x.sort == globalHolder && x.at >= v.Laid, x.sort == laneHolder && !v.Lanes[x.at].Scanned:
		return api.Grey
	}
	return api.Black
}

// mayBe tells whether a view may be.
func mayBe(v api.View) bool {
	return v.Phase <= api.PhaseSweep && isUpTo(v.Swept, len(v.Cells)) && isUpTo(v.Laid, len(v.Globals)) &&
		hasHeads(v.Cells) && hasWords(v) && hasGrey(v)
}

func isUpTo(n, most int) bool { return n >= 0 && n <= most }

// hasHeads tells whether each cell has a kind and a colour.
func hasHeads(h []api.Cell) bool {
	for _, c := range h {
		if c.Kind > api.KindClosure || c.Colour > api.Black {
			return false
		}
	}
	return true
}

// hasWords tells whether all that holders hold are words that fit.
func hasWords(v api.View) bool {
	for _, held := range holders(v) {
		for _, w := range held {
			if !isWord(w, len(v.Cells)) {
				return false
			}
		}
	}
	return true
}

// isWord tells whether w is a word and, if it is a reference, names one of so many cells.
func isWord(w api.Word, cells int) bool {
	if _, _, ok := words.Of(w); !ok {
		return false
	}
	cell, isRef := words.Cell(w)
	return !isRef || cell < cells
}

// hasGrey tells whether Grey has just the cells that are grey and not free, each once.
func hasGrey(v api.View) bool {
	missing := make([]bool, len(v.Cells))
	for i, c := range v.Cells {
		missing[i] = isGrey(c)
	}
	for _, cell := range v.Grey {
		if cell < 0 || cell >= len(v.Cells) || !missing[cell] {
			return false
		}
		missing[cell] = false
	}
	return !slices.Contains(missing, true)
}
