package baton

import (
	"dapple/api"
)

// Threads is how many there are, those that have ended with them.
func (w *Baton) Threads() int { return w.world.Threads() }

// Phase is the phase, and how many cycles have begun.
func (w *Baton) Phase() (api.Phase, int) { return w.world.Phase() }

// Heap is all cells, as they stand.
func (w *Baton) Heap() []api.Cell { return w.world.Heap() }

// Free are the free cells that nobody was given, rising.
func (w *Baton) Free() []int { return w.world.Free() }

// Waiting is who waits for a cell, the longest first.
func (w *Baton) Waiting() []api.Waiter { return w.world.Waiting() }

// Roots are all threads' roots, and the globals.
func (w *Baton) Roots() []api.Word { return w.world.Roots() }

// Globals are the globals' words.
func (w *Baton) Globals() []api.Word { return w.world.Globals() }

// Ended tells whether a thread has ended, and how.
func (w *Baton) Ended(thread int) (api.Ended, api.Errno) { return w.world.Ended(thread) }

// View is all that the collector knows.
func (w *Baton) View() api.View { return w.world.View() }
