package model

import (
	"dapple/api"
	"dapple/words"
)

// hand is the model by thread: that thread's machine knows it as what does its accesses. Nothing is ever shaded.
type hand struct {
	*Model
	thread int
}

// step is the thread's next one. On a heap that never ends nobody waits for a cell: who did not get one was refused it, and
// its end belongs to that step.
func (h *hand) step() api.Event {
	machine := h.lane(h.thread).machine
	told := machine.Step(h)
	if told.What == api.StepWait {
		machine.Refuse()
		told = machine.Step(h)
	}
	told.Actor = h.thread
	if end := machine.Ended(); end.Ended {
		h.End(h.thread, end.Word, end.Err)
	}
	return told
}

// word is where a field of a cell stands.
func (h *hand) word(cell, field int) *api.Word {
	if field == 0 {
		return &h.heap[cell].A
	}
	return &h.heap[cell].B
}

// Load is a field of a cell.
func (h *hand) Load(cell, field int) api.Word { return *h.word(cell, field) }

// Store lays a word there.
func (h *hand) Store(cell, field int, w api.Word) (api.Word, []int) {
	there := h.word(cell, field)
	old := *there
	*there = w
	return old, nil
}

// Cas lays a word there, if another one stands there.
func (h *hand) Cas(cell int, old, next api.Word) (api.Word, bool, []int) {
	was := h.Load(cell, 0)
	if was != old {
		return was, false, nil
	}
	h.Store(cell, 0, next)
	return was, true, nil
}

// Add adds to the integer there.
func (h *hand) Add(cell int, n api.Word) (api.Word, api.Errno) {
	sum, e := words.Add(h.Load(cell, 0), n)
	if e != api.OK {
		return 0, e
	}
	h.Store(cell, 0, sum)
	return sum, api.OK
}

// Kind is a cell's.
func (h *hand) Kind(cell int) api.Kind { return h.heap[cell].Kind }

// Alloc fills a cell that nobody ever had.
func (h *hand) Alloc(k api.Kind, a, b api.Word) (int, bool, []int) {
	if h.lane(h.thread).refused {
		return 0, false, nil
	}
	h.heap = append(h.heap, api.Cell{Kind: k, Colour: api.White, A: a, B: b})
	return len(h.heap) - 1, true, nil
}

// Global is a global's word.
func (h *hand) Global(i int) api.Word {
	w, _ := h.Book.Global(i)
	return w
}

// SetGlobal lays a word there.
func (h *hand) SetGlobal(i int, w api.Word) (api.Word, []int) {
	old, _ := h.Book.SetGlobal(i, w)
	return old, nil
}

// Spawn begins a thread.
func (h *hand) Spawn(proc int, env api.Word) (int, api.Errno) { return h.begin(proc, env) }

// Join is the result of a thread.
func (h *hand) Join(thread int) (api.Word, bool, api.Errno) { return h.Book.Join(h.thread, thread) }

// Lock takes a lock.
func (h *hand) Lock(n int) (bool, api.Errno) { return h.Book.Lock(h.thread, n) }

// Unlock hands one on.
func (h *hand) Unlock(n int) api.Errno {
	_, e := h.Book.Unlock(h.thread, n)
	return e
}
