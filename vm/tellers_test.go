package vm_test

import (
	"slices"

	"dapple/api"
	"dapple/vm"
	"dapple/words"
)

// call is a method of Accesses that was called: its name, and what it was handed.
type call struct {
	name    string
	numbers []int
	words   []api.Word
}

// notes lets another one tell, and notes what was called.
type notes struct {
	teller vm.Accesses
	calls  []call
}

func (n *notes) note(name string, numbers []int, w ...api.Word) {
	n.calls = append(n.calls, call{name, numbers, w})
}

func (n *notes) Load(cell, field int) api.Word {
	n.note("Load", []int{cell, field})
	return n.teller.Load(cell, field)
}

func (n *notes) Store(cell, field int, w api.Word) (api.Word, []int) {
	n.note("Store", []int{cell, field}, w)
	return n.teller.Store(cell, field, w)
}

func (n *notes) Cas(cell int, old, next api.Word) (api.Word, bool, []int) {
	n.note("Cas", []int{cell}, old, next)
	return n.teller.Cas(cell, old, next)
}

func (n *notes) Add(cell int, w api.Word) (api.Word, api.Errno) {
	n.note("Add", []int{cell}, w)
	return n.teller.Add(cell, w)
}

func (n *notes) Kind(cell int) api.Kind {
	n.note("Kind", []int{cell})
	return n.teller.Kind(cell)
}

func (n *notes) Alloc(k api.Kind, a, b api.Word) (int, bool, []int) {
	n.note("Alloc", []int{int(k)}, a, b)
	return n.teller.Alloc(k, a, b)
}

func (n *notes) Global(i int) api.Word {
	n.note("Global", []int{i})
	return n.teller.Global(i)
}

func (n *notes) SetGlobal(i int, w api.Word) (api.Word, []int) {
	n.note("SetGlobal", []int{i}, w)
	return n.teller.SetGlobal(i, w)
}

func (n *notes) Spawn(proc int, env api.Word) (int, api.Errno) {
	n.note("Spawn", []int{proc}, env)
	return n.teller.Spawn(proc, env)
}

func (n *notes) Join(thread int) (api.Word, bool, api.Errno) {
	n.note("Join", []int{thread})
	return n.teller.Join(thread)
}

func (n *notes) Lock(lock int) (bool, api.Errno) {
	n.note("Lock", []int{lock})
	return n.teller.Lock(lock)
}

func (n *notes) Unlock(lock int) api.Errno {
	n.note("Unlock", []int{lock})
	return n.teller.Unlock(lock)
}

// taken are the calls since the last time, without Kind, which is no access.
func (n *notes) taken() []call {
	l := slices.DeleteFunc(n.calls, func(c call) bool { return c.name == "Kind" })
	n.calls = nil
	return l
}

// heap is one that numbers its cells from 0 on, as they come, and has room for so many.
type heap struct {
	cells   []api.Cell
	most    int
	globals []api.Word
	// What the calls that are not the heap's tell.
	thread int
	w      api.Word
	now    bool
	e      api.Errno
}

// roomy is a heap with room for many cells, on which joins and locks are told at once.
func roomy(globals ...api.Word) *heap {
	return &heap{most: 1000, globals: globals, thread: 2, w: number(5), now: true}
}

func (h *heap) at(cell, field int) *api.Word {
	if field == 1 {
		return &h.cells[cell].B
	}
	return &h.cells[cell].A
}

func (h *heap) Load(cell, field int) api.Word { return *h.at(cell, field) }

func (h *heap) Store(cell, field int, w api.Word) (api.Word, []int) {
	old := *h.at(cell, field)
	*h.at(cell, field) = w
	return old, nil
}

func (h *heap) Cas(cell int, old, next api.Word) (api.Word, bool, []int) {
	was := h.cells[cell].A
	if was != old {
		return was, false, nil
	}
	h.cells[cell].A = next
	return was, true, nil
}

func (h *heap) Add(cell int, n api.Word) (api.Word, api.Errno) {
	sum, e := words.Add(h.cells[cell].A, n)
	if e == api.OK {
		h.cells[cell].A = sum
	}
	return sum, e
}

func (h *heap) Kind(cell int) api.Kind {
	if cell >= len(h.cells) {
		return api.KindFree
	}
	return h.cells[cell].Kind
}

func (h *heap) Alloc(k api.Kind, a, b api.Word) (int, bool, []int) {
	if len(h.cells) >= h.most {
		return 0, false, nil
	}
	h.cells = append(h.cells, api.Cell{Kind: k, A: a, B: b})
	return len(h.cells) - 1, true, nil
}

func (h *heap) Global(i int) api.Word { return h.globals[i] }

func (h *heap) SetGlobal(i int, w api.Word) (api.Word, []int) {
	old := h.globals[i]
	h.globals[i] = w
	return old, nil
}

func (h *heap) Spawn(int, api.Word) (int, api.Errno) { return h.thread, h.e }
func (h *heap) Join(int) (api.Word, bool, api.Errno) { return h.w, h.now, h.e }
func (h *heap) Lock(int) (bool, api.Errno)           { return h.now, h.e }
func (h *heap) Unlock(int) api.Errno                 { return h.e }

// fixed tells the same whatever it is asked; only the kinds of cells are those of kindOf, so that a word's kind can be picked.
type fixed struct {
	w      api.Word // what is loaded, what stood there, what a thread answered
	yes    bool
	shaded []int
	number int // a cell's, a thread's
	e      api.Errno
}

func (f *fixed) Load(int, int) api.Word                              { return f.w }
func (f *fixed) Store(int, int, api.Word) (api.Word, []int)          { return f.w, f.shaded }
func (f *fixed) Cas(int, api.Word, api.Word) (api.Word, bool, []int) { return f.w, f.yes, f.shaded }
func (f *fixed) Add(int, api.Word) (api.Word, api.Errno)             { return f.w, f.e }
func (f *fixed) Kind(cell int) api.Kind                              { return kindOf(cell) }
func (f *fixed) Alloc(api.Kind, api.Word, api.Word) (int, bool, []int) {
	return f.number, f.yes, f.shaded
}
func (f *fixed) Global(i int) api.Word                     { return f.w }
func (f *fixed) SetGlobal(int, api.Word) (api.Word, []int) { return f.w, f.shaded }
func (f *fixed) Spawn(int, api.Word) (int, api.Errno)      { return f.number, f.e }
func (f *fixed) Join(int) (api.Word, bool, api.Errno)      { return f.w, f.yes, f.e }
func (f *fixed) Lock(int) (bool, api.Errno)                { return f.yes, f.e }
func (f *fixed) Unlock(int) api.Errno                      { return f.e }

// kindOf is the kind of a cell where kinds go by numbers: 0 is a pair, 1 a box, 2 a closure, 3 is free, and so on.
func kindOf(cell int) api.Kind {
	return [4]api.Kind{api.KindPair, api.KindBox, api.KindClosure, api.KindFree}[cell%4]
}

// The references of which kindOf tells what they are to.
func pairRef() api.Word    { return words.Ref(8) }
func boxRef() api.Word     { return words.Ref(13) }
func closureRef() api.Word { return words.Ref(18) }
func freeRef() api.Word    { return words.Ref(23) }
