package cells

import (
	"slices"
	"sync"

	"dapple/api"
	"dapple/atoms"
	"dapple/words"
)

// mostTouches bounds how many touches a storm may have.
const mostTouches = 65536

// Storm lets so many goroutines do these calls; how many cells they made grey.
func (h *Heap) Storm(workers int, l ...api.Touch) (int, api.Errno) {
	switch {
	case workers < 1 || workers > api.MaxWorkers:
		return 0, api.ErrArg
	case len(l) > mostTouches:
		return 0, api.ErrMuch
	case !h.bears(l):
		return 0, api.ErrCellsForm
	}
	return h.blow(workers, l), api.OK
}

// bears tells whether all touches can be made, in whatever order they come.
func (h *Heap) bears(touches []api.Touch) bool {
	f := h.forecast()
	for _, t := range touches {
		if !f.bears(t) {
			return false
		}
	}
	return true
}

// forecast is a heap as a storm finds it, each field as low and as high as touches could bring it on the way: by all that
// take away ahead of all that add, and the other way round.
type forecast struct {
	least, most []state
}

func (h *Heap) forecast() forecast {
	least := make([]state, len(h.at))
	for i := range h.at {
		least[i] = *h.at[i].Load()
	}
	return forecast{least: least, most: slices.Clone(least)}
}

// bears tells whether a touch can be made beside those that were asked for ahead of it.
func (f forecast) bears(t api.Touch) bool {
	if t.Cell < 0 || t.Cell >= len(f.least) || f.least[t.Cell].isFree() {
		return false
	}
	switch t.Kind {
	case api.TouchAdd, api.TouchCas:
		return isField(t.Field) && f.add(t.Cell, t.Field, t.N)
	case api.TouchShade:
		return true
	}
	return false
}

// add brings a field further up or down; false: it or n is no integer, or it would come out of the integers.
func (f forecast) add(cell, field int, n api.Word) bool {
	end := f.most
	if _, number, _ := words.Of(n); number < 0 {
		end = f.least
	}
	sum, e := words.Add(end[cell].words[field], n)
	end[cell].words[field] = sum
	return e == api.OK
}

// blow makes all touches by so many goroutines; how many cells were made grey, when all have ended.
func (h *Heap) blow(workers int, touches []api.Touch) int {
	next, greyed := atoms.NewTicket(), atoms.NewCounter(0)
	var all sync.WaitGroup
	for range workers {
		all.Add(1)
		go func() {
			defer all.Done()
			for i := next.Take(); i < uint64(len(touches)); i = next.Take() {
				if h.touch(touches[i]) {
					greyed.Add(1)
				}
			}
		}()
	}
	all.Wait()
	return int(greyed.Load())
}

// touch makes one touch; whether it made a cell grey.
func (h *Heap) touch(t api.Touch) bool {
	switch t.Kind {
	case api.TouchAdd:
		h.Add(t.Cell, t.Field, t.N)
	case api.TouchCas:
		h.addByCas(t.Cell, t.Field, t.N)
	case api.TouchShade:
		return h.Shade(t.Cell)
	}
	return false
}

// addByCas adds as a program without an Add of its own would.
func (h *Heap) addByCas(cell, field int, n api.Word) {
	for {
		there, e := h.Load(cell, field)
		if e != api.OK {
			return
		}
		sum, e := words.Add(there, n)
		if e != api.OK {
			return
		}
		// An error here or above comes only of calls beside the storm, which are not to be made: it must end all the same.
		if _, did, e := h.Cas(cell, field, there, sum); did || e != api.OK {
			return
		}
	}
}
