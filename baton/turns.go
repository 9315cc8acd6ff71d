package baton

import (
	"slices"

	"dapple/api"
)

// Ready are the actors that can go a step: the collector is 0.
func (w *Baton) Ready() []int {
	if w.isShut() {
		return nil
	}
	return w.world.Ready()
}

// Pick lets one of them go a step.
func (w *Baton) Pick(n uint32) (api.Event, bool) {
	ready := w.Ready()
	if len(ready) == 0 {
		return api.Event{}, false
	}
	return w.hand(ready, int(n%uint32(len(ready)))), true
}

// Settle lets them go by turns; how many steps were gone.
func (w *Baton) Settle(most int) int {
	most = min(most, api.MaxSettle)
	gone := 0
	for ready := w.Ready(); gone < most && len(ready) > 0; ready = w.Ready() {
		gone += w.round(ready, most-gone)
	}
	return gone
}

// Steps is how many were gone.
func (w *Baton) Steps() int { return w.world.Steps() }

// round lets each of these go a step, if it still can when it is its turn, till most steps were gone; how many were. Where an
// actor stands is looked up ahead of each step: the one before may have woken or begun others.
func (w *Baton) round(actors []int, most int) int {
	gone := 0
	for _, actor := range actors {
		if gone == most {
			break
		}
		ready := w.Ready()
		if place := slices.Index(ready, actor); place >= 0 {
			w.hand(ready, place)
			gone++
		}
	}
	return gone
}

// hand hands the baton to the one at a place of those that can go a step, and waits till it comes back, with what that one did.
func (w *Baton) hand(ready []int, place int) api.Event {
	w.turns[ready[place]] <- turn{world: w.world, place: uint32(place)}
	step := <-w.told
	w.begin()
	return step
}
