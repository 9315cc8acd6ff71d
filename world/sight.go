package world

import (
	"dapple/api"
)

// Threads is how many there are, those that have ended with them.
func (w *World) Threads() int { return len(w.machines) }

// Phase is the phase, and how many cycles have begun.
func (w *World) Phase() (api.Phase, int) { return w.where.Phase, w.where.Begun }

// Heap is all cells, as they stand.
func (w *World) Heap() []api.Cell { return w.heap.Snapshot() }

// Free are the free cells that nobody was given, rising.
func (w *World) Free() []int { return w.room.Free() }

// Waiting is who waits for a cell, the longest first.
func (w *World) Waiting() []api.Waiter { return w.room.Waiting() }

// Roots are all threads' roots, and the globals.
func (w *World) Roots() []api.Word {
	var out []api.Word
	for _, machine := range w.machines {
		out = append(out, machine.Roots()...)
	}
	return append(out, w.Globals()...)
}

// Globals are the globals' words.
func (w *World) Globals() []api.Word {
	var out []api.Word
	for i := range w.program.Globals {
		word, _ := w.book.Global(i)
		out = append(out, word)
	}
	return out
}

// Ended tells whether a thread has ended, and how.
func (w *World) Ended(thread int) (api.Ended, api.Errno) {
	end, e := w.book.Ended(thread)
	if e != api.OK {
		return api.Ended{}, api.ErrWorldThread
	}
	return end, api.OK
}

// View is all that the collector knows.
func (w *World) View() api.View {
	v := api.View{
		Cells:   w.Heap(),
		Phase:   w.where.Phase,
		Swept:   w.where.Swept,
		Grey:    w.marker.Grey(),
		Globals: w.Globals(),
		Laid:    w.laid(),
	}
	for i, machine := range w.machines {
		v.Lanes = append(v.Lanes, api.Lane{
			Roots:   machine.Roots(),
			Scanned: w.shake.Scanned(i + 1),
			Ended:   machine.Ended().Ended,
		})
	}
	return v
}

// laid is how many globals the collector has met. Where it marks it counts them no more: all of them have been laid.
func (w *World) laid() int {
	if w.where.Phase == api.PhaseMark {
		return len(w.program.Globals)
	}
	return w.where.Global
}
