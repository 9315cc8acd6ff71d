package world

import (
	"dapple/api"
	"dapple/cycle"
)

// around is what the collector sees.
func (w *World) around() api.Around {
	left := w.shake.Left()
	return api.Around{
		Cells:   w.heap.Len(),
		Globals: len(w.program.Globals),
		Thread:  left,
		Still:   left != 0 && w.isStill(left),
		Told:    w.shake.Asked(left),
		Grey:    len(w.marker.Grey()) > 0,
	}
}

// next is what the collector does next; What 0: it can't go a step.
func (w *World) next() api.Do { return cycle.Next(w.where, w.around()) }

// collect is the collector's next step. Where it is then hangs on what was around ahead of that step.
func (w *World) collect() api.Event {
	around := w.around()
	told := w.does(cycle.Next(w.where, around))
	w.where, _ = cycle.Step(w.where, around, told.Yes)
	return told
}

// does does what the collector is to do.
func (w *World) does(x api.Do) api.Event {
	told := api.Event{What: x.What}
	switch x.What {
	case api.StepBegin:
		told.Other = w.where.Begun + 1
		w.shake.Begin()
	case api.StepRoot:
		root, _ := w.book.Global(x.Global)
		told.Other, told.Shaded = x.Global, w.marker.Shade(root)
	case api.StepAsk:
		told.Other = x.Thread
		w.shake.Ask(x.Thread)
	case api.StepScanThread:
		told.Other, told.Shaded = x.Thread, w.layRoots(x.Thread)
	case api.StepScan:
		told.Cell, told.Shaded, _ = w.marker.Scan()
	case api.StepCheck:
		w.shake.End()
		w.sweeper.Begin()
	case api.StepSweep:
		told.Cell, told.Yes, told.Other = w.sweepCell()
	case api.StepFinish:
		told.Other = w.where.Freed
		w.refuse(w.room.Finish(w.where.Begun, w.where.Freed))
	}
	return told
}

// sweepCell sweeps the next cell: which; whether it is given back; and to which thread, 0 if to none.
func (w *World) sweepCell() (int, bool, int) {
	cell, freed, _ := w.sweeper.Step()
	if !freed {
		return cell, false, 0
	}
	thread, _ := w.room.Back(cell)
	return cell, true, thread
}

// refuse lets threads that wait for a cell end with their next steps.
func (w *World) refuse(threads []int) {
	for _, thread := range threads {
		w.machine(thread).Refuse()
	}
}

// seen is the heap that the barrier looks at: nothing of it, while that shades nothing, so that no list of all cells is made
// for each store.
func (w *World) seen() []api.Cell {
	if w.where.Phase == api.PhaseRoots || w.where.Phase == api.PhaseMark {
		return w.heap.Snapshot()
	}
	return nil
}
