package par

import (
	"dapple/api"
	"dapple/graph"
	"dapple/words"
)

// checkMark is what Mark is refused for.
func checkMark(h []api.Cell, workers int, roots []api.Word) api.Errno {
	if e := checkHeap(h, workers); e != api.OK {
		return e
	}
	for _, w := range roots {
		if !isRoot(w, len(h)) {
			return api.ErrParForm
		}
	}
	return api.OK
}

// checkSweep is what Sweep is refused for.
func checkSweep(h []api.Cell, live []bool, workers int) api.Errno {
	if e := checkHeap(h, workers); e != api.OK {
		return e
	}
	if len(live) != len(h) {
		return api.ErrParForm
	}
	for i, c := range h {
		if live[i] && c.Kind == api.KindFree {
			return api.ErrParForm
		}
	}
	return api.OK
}

// checkHeap is what all calls are refused for.
func checkHeap(h []api.Cell, workers int) api.Errno {
	if workers < 1 || workers > api.MaxWorkers {
		return api.ErrArg
	}
	if e, _ := graph.Check(h); e != api.OK {
		return api.ErrParForm
	}
	return api.OK
}

// isRoot tells whether w is a word and, if it is a reference, names one of so many cells.
func isRoot(w api.Word, cells int) bool {
	if _, _, ok := words.Of(w); !ok {
		return false
	}
	cell, isRef := words.Cell(w)
	return !isRef || cell < cells
}
