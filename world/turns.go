package world

import (
	"slices"

	"dapple/api"
)

// collector is its number among the actors.
const collector = 0

// Ready are the actors that can go a step: the collector is 0.
func (w *World) Ready() []int {
	var out []int
	for actor := range 1 + w.Threads() {
		if w.can(actor) {
			out = append(out, actor)
		}
	}
	return out
}

// Pick lets one of them go a step.
func (w *World) Pick(n uint32) (api.Event, bool) {
	ready := w.Ready()
	if len(ready) == 0 {
		return api.Event{}, false
	}
	return w.step(ready[n%uint32(len(ready))]), true
}

// Settle lets them go by turns; how many steps were gone.
func (w *World) Settle(most int) int {
	most = min(most, api.MaxSettle)
	gone := 0
	for ready := w.Ready(); gone < most && len(ready) > 0; ready = w.Ready() {
		gone += w.round(ready, most-gone)
	}
	return gone
}

// Steps is how many were gone.
func (w *World) Steps() int { return w.steps }

// round lets each of these go a step, if it still can when it is its turn, till most steps were gone; how many were.
func (w *World) round(actors []int, most int) int {
	gone := 0
	for _, actor := range actors {
		if gone < most && w.can(actor) {
			w.step(actor)
			gone++
		}
	}
	return gone
}

// step lets an actor that can go one step.
func (w *World) step(actor int) api.Event {
	w.steps++
	if actor == collector {
		return w.collect()
	}
	a := agent{World: w, thread: actor}
	return a.step()
}

// can tells whether an actor can go a step.
func (w *World) can(actor int) bool {
	if actor == collector {
		return w.next().What != 0
	}
	return !w.isStill(actor)
}

// isStill tells whether a thread waits, or has ended.
func (w *World) isStill(thread int) bool {
	end, _ := w.book.Ended(thread)
	return end.Ended || w.book.Waits(thread) || w.waitsForCell(thread)
}

// waitsForCell tells whether a thread has asked for a cell, and was neither given one nor refused.
func (w *World) waitsForCell(thread int) bool {
	return slices.ContainsFunc(w.room.Waiting(), func(x api.Waiter) bool { return x.Thread == thread })
}
