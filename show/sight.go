package show

import (
	"slices"

	"dapple/api"
	"dapple/graph"
	"dapple/lex"
	"dapple/words"
)

// sight is what can be seen from a word: the cells that are met, numbered by the ways that lead to them, and the word as it names them.
type sight struct {
	cells []api.Cell
	from  api.Word
}

// label is what is known of a cell that is met.
type label struct {
	met    int  // how often
	came   bool // in the text: then it has a number
	number int
}

// look is what is seen of h from w; false: w does not fit h.
func look(h []api.Cell, w api.Word) (sight, bool) {
	if e, _ := graph.Check(h); e != api.OK {
		return sight{}, false
	}
	cells, roots, e := graph.Form(bare(h), w)
	if e != api.OK || slices.ContainsFunc(cells, isWrong) {
		return sight{}, false
	}
	return sight{cells: cells, from: roots[0]}, true
}

// bare is a heap with nothing in its boxes' second words, which graph would follow.
// The first words of closures stay: where one leads on, it is no procedure's number, and whoever meets the closure is refused.
func bare(h []api.Cell) []api.Cell {
	nothing, _ := words.Make(api.TagNil, 0)
	out := slices.Clone(h)
	for i := range out {
		if out[i].Kind == api.KindBox {
			out[i].B = nothing
		}
	}
	return out
}

// isWrong tells whether a cell may not be met.
func isWrong(c api.Cell) bool {
	switch c.Kind {
	case api.KindFree:
		return true
	case api.KindClosure:
		tag, n, _ := words.Of(c.A)
		return tag != api.TagInt || n < 0
	}
	return false
}

// fields are those of a cell that are met with it.
func fields(c api.Cell) []api.Word {
	switch c.Kind {
	case api.KindPair:
		return []api.Word{c.A, c.B}
	case api.KindBox:
		return []api.Word{c.A}
	case api.KindClosure:
		return []api.Word{c.B}
	}
	return nil
}

// met are all words that are met, each as often as it is.
func (s sight) met() []api.Word {
	list := []api.Word{s.from}
	for _, c := range s.cells {
		list = append(list, fields(c)...)
	}
	return list
}

// count gives all cells that are met their labels, without numbers: which one comes first is not known yet.
func (s sight) count() map[int]label {
	labels := map[int]label{}
	for _, w := range s.met() {
		if cell, ok := words.Cell(w); ok {
			labels[cell] = label{met: labels[cell].met + 1}
		}
	}
	return labels
}

// isNamed tells whether all symbols that are met have names.
func (s sight) isNamed(names []string) bool {
	return !slices.ContainsFunc(s.met(), func(w api.Word) bool {
		tag, n, _ := words.Of(w)
		return tag == api.TagSymbol && n >= int64(len(names))
	})
}

// areNames tells whether all of them are symbols, and none stands there twice.
func areNames(names []string) bool {
	known := map[string]struct{}{}
	for _, s := range names {
		if !lex.IsSymbol(s) {
			return false
		}
		known[s] = struct{}{}
	}
	return len(known) == len(names)
}
