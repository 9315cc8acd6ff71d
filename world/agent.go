package world

import (
	"dapple/api"
	"dapple/barrier"
)

// agent is what acts for a thread: the world, and that thread's number. The thread's machine knows it as what does its accesses.
type agent struct {
	*World
	thread int
}

// step is the thread's next one. Who was asked by the collector lays its roots first, whatever it is at.
func (a *agent) step() api.Event {
	if a.shake.Asked(a.thread) {
		return api.Event{Actor: a.thread, What: api.StepAck, Shaded: a.layRoots(a.thread)}
	}
	machine := a.machine(a.thread)
	told := machine.Step(a)
	told.Actor = a.thread
	if end := machine.Ended(); end.Ended {
		a.book.End(a.thread, end.Word, end.Err)
	}
	return told
}

// cover is the barrier where the thread has laid a word over another one: what became grey.
func (a *agent) cover(old, next api.Word) []int {
	return a.marker.Lay(barrier.Store(a.where.Phase, a.shake.Scanned(a.thread), old, next, a.seen())...)
}

// Load is a field of a cell.
func (a *agent) Load(cell, field int) api.Word {
	w, _ := a.heap.Load(cell, field)
	return w
}

// Store lays a word there.
func (a *agent) Store(cell, field int, w api.Word) (api.Word, []int) {
	old, _ := a.heap.Swap(cell, field, w)
	return old, a.cover(old, w)
}

// Cas lays a word there, if another one stands there.
func (a *agent) Cas(cell int, old, next api.Word) (api.Word, bool, []int) {
	was, did, _ := a.heap.Cas(cell, 0, old, next)
	if !did {
		return was, false, nil
	}
	return was, true, a.cover(was, next)
}

// Add adds to the integer there. An integer is laid over another one: nothing is shaded.
func (a *agent) Add(cell int, n api.Word) (api.Word, api.Errno) { return a.heap.Add(cell, 0, n) }

// Kind is a cell's.
func (a *agent) Kind(cell int) api.Kind {
	k, _, _ := a.heap.Head(cell)
	return k
}

// Alloc fills a cell, if there is one.
func (a *agent) Alloc(k api.Kind, x, y api.Word) (int, bool, []int) {
	cell, got, _ := a.room.Ask(a.thread, a.where.Begun)
	if !got {
		return 0, false, nil
	}
	a.heap.Make(cell, k, barrier.Birth(a.where.Phase, cell, a.where.Swept), x, y)
	return cell, true, a.marker.Lay(barrier.Fill(a.where.Phase, a.shake.Scanned(a.thread), x, y, a.seen())...)
}

// Global is a global's word.
func (a *agent) Global(i int) api.Word {
	w, _ := a.book.Global(i)
	return w
}

// SetGlobal lays a word there.
func (a *agent) SetGlobal(i int, w api.Word) (api.Word, []int) {
	old, _ := a.book.SetGlobal(i, w)
	return old, a.cover(old, w)
}

// Spawn begins a thread, which is scanned just if this one is.
func (a *agent) Spawn(proc int, env api.Word) (int, api.Errno) { return a.begin(a.thread, proc, env) }

// Join is the result of a thread.
func (a *agent) Join(thread int) (api.Word, bool, api.Errno) { return a.book.Join(a.thread, thread) }

// Lock takes a lock.
func (a *agent) Lock(n int) (bool, api.Errno) { return a.book.Lock(a.thread, n) }

// Unlock hands one on.
func (a *agent) Unlock(n int) api.Errno {
	_, e := a.book.Unlock(a.thread, n)
	return e
}
