package free

import "dapple/api"

// What a thread does to the heap and to globals is one call of the heap's, or one atomic step, whoever it is: it needs no lock.

// Load is a field of a cell.
func (r *run) Load(cell, field int) api.Word {
	w, _ := r.heap.Load(cell, field)
	return w
}

// Store lays a word there.
func (r *run) Store(cell, field int, w api.Word) (api.Word, []int) {
	old, _ := r.heap.Swap(cell, field, w)
	return old, nil
}

// Cas lays a word there, if another one stands there.
func (r *run) Cas(cell int, old, next api.Word) (api.Word, bool, []int) {
	was, did, _ := r.heap.Cas(cell, 0, old, next)
	return was, did, nil
}

// Add adds to the integer there.
func (r *run) Add(cell int, n api.Word) (api.Word, api.Errno) { return r.heap.Add(cell, 0, n) }

// Kind is a cell's.
func (r *run) Kind(cell int) api.Kind {
	k, _, _ := r.heap.Head(cell)
	return k
}

// Alloc fills a cell that nobody ever had, if there is one. Its number is one thread's alone till that has a reference to it,
// so that no moment between both steps can be seen.
func (r *run) Alloc(k api.Kind, a, b api.Word) (int, bool, []int) {
	n := r.fresh.Take()
	if n >= uint64(r.heap.Len()) {
		return 0, false, nil
	}
	cell := int(n)
	r.heap.Make(cell, k, api.White, a, b)
	return cell, true, nil
}

// Global is a global's word.
func (r *run) Global(i int) api.Word { return api.Word(r.globals[i].Load()) }

// SetGlobal lays a word there.
func (r *run) SetGlobal(i int, w api.Word) (api.Word, []int) {
	return api.Word(r.globals[i].Swap(uint64(w))), nil
}
