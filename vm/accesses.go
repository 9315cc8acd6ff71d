package vm

import (
	"slices"

	"dapple/api"
	"dapple/words"
)

// load makes a LOAD: the word.
func (s *step) load(cell, field int) api.Word {
	w := s.heap.Load(cell, field)
	s.told = api.Event{What: api.StepLoad, Cell: cell, Field: field, Old: w, New: w}
	return w
}

// store makes a STORE.
func (s *step) store(cell, field int, w api.Word) {
	old, shaded := s.heap.Store(cell, field, w)
	s.told = api.Event{What: api.StepStore, Cell: cell, Field: field, Old: old, New: w, Shaded: slices.Clone(shaded)}
}

// exchange makes a CAS: whether it was done.
func (s *step) exchange(cell int, old, next api.Word) bool {
	was, did, shaded := s.heap.Cas(cell, old, next)
	s.told = api.Event{What: api.StepCas, Cell: cell, Old: was, New: was, Yes: did, Shaded: slices.Clone(shaded)}
	if did {
		s.told.New = next
	}
	return did
}

// add makes an ADD: the sum. What stood there is not told, but follows from it.
func (s *step) add(cell int, n api.Word) api.Word {
	sum, e := s.heap.Add(cell, n)
	old, _ := words.Sub(sum, n)
	s.told = api.Event{What: api.StepAdd, Cell: cell, Old: old, New: sum}
	s.mind(e)
	return sum
}

// alloc makes an ALLOC: the reference to the cell. If there is none, the thread waits: whoever asks for a cell looks at that.
func (s *step) alloc(k api.Kind, a, b api.Word) api.Word {
	cell, got, shaded := s.heap.Alloc(k, a, b)
	if !got {
		s.request = []api.Word{a, b}
		s.told = api.Event{What: api.StepWait}
		return 0
	}
	s.told = api.Event{What: api.StepAlloc, Cell: cell, Old: a, New: b, Shaded: slices.Clone(shaded)}
	return words.Ref(cell)
}

// loadGlobal makes a GLOBAL: the word.
func (s *step) loadGlobal(i int) api.Word {
	w := s.heap.Global(i)
	s.told = api.Event{What: api.StepGlobal, Other: i, Old: w, New: w}
	return w
}

// storeGlobal makes a SETGLOBAL.
func (s *step) storeGlobal(i int, w api.Word) {
	old, shaded := s.heap.SetGlobal(i, w)
	s.told = api.Event{What: api.StepSetGlobal, Other: i, Old: old, New: w, Shaded: slices.Clone(shaded)}
}

// start makes a SPAWN: the new thread's number.
func (s *step) start(closure api.Word, proc int, env api.Word) int {
	thread, e := s.heap.Spawn(proc, env)
	s.told = api.Event{What: api.StepSpawn}
	s.mind(e)
	s.told.Other, s.told.New = thread, closure
	return thread
}

// result makes a JOIN: that thread's result; false, if it has not ended.
func (s *step) result(thread int) (api.Word, bool) {
	w, now, e := s.heap.Join(thread)
	s.told = api.Event{What: api.StepJoin, Other: thread}
	s.mind(e)
	if !now {
		s.told.What = api.StepWaitJoin
		return 0, false
	}
	s.told.New = w
	return w, true
}

// take makes a LOCK. Who finds it held goes on when it has been handed the lock, and so does not ask again.
func (s *step) take(n int) {
	now, e := s.heap.Lock(n)
	s.told = api.Event{What: api.StepLock, Other: n}
	s.mind(e)
	if !now {
		s.told.What = api.StepWaitLock
	}
}

// give makes an UNLOCK.
func (s *step) give(n int) {
	e := s.heap.Unlock(n)
	s.told = api.Event{What: api.StepUnlock, Other: n}
	s.mind(e)
}
