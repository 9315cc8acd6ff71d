package model_test

import (
	"slices"

	"dapple/api"
	"dapple/vm"
	"dapple/words"
)

// plain is a model as the chapters tell it, once more, in the plainest way and without the book: cells in a map, and what each
// thread waits for written down at that thread.
type plain struct {
	code    api.Code
	cells   map[int]api.Cell
	globals []api.Word
	holders []int
	threads []*plainThread
	moment  int // one for each time that somebody begins to wait
}

// plainThread is one of its threads.
type plainThread struct {
	*plain
	number  int
	machine *vm.Thread
	end     api.Ended
	refused bool
	forEnd  int // the thread for whose end it waits
	forLock int // the lock for which it waits, and 1 more
	since   int
}

// newPlain is a plain model; it must be such that New takes it.
func newPlain(locks int, code api.Code) *plain {
	p := &plain{code: code, cells: map[int]api.Cell{}, holders: make([]int, locks)}
	for range code.Globals {
		p.globals = append(p.globals, nothing())
	}
	return p
}

func (p *plain) Start(proc int) (int, api.Errno) { return p.begin(proc, null()) }

func (p *plain) begin(proc int, env api.Word) (int, api.Errno) {
	if proc < 0 || proc >= len(p.code.Procs) || p.code.Procs[proc].Params != 0 {
		return 0, api.ErrArg
	}
	if len(p.threads) == 8 {
		return 0, api.ErrLocksMuch
	}
	machine, _ := vm.New(p.code, proc, env)
	p.threads = append(p.threads, &plainThread{plain: p, number: len(p.threads) + 1, machine: machine})
	return len(p.threads), api.OK
}

func (p *plain) has(thread int) bool { return thread >= 1 && thread <= len(p.threads) }

func (p *plain) Step(thread int) (api.Event, api.Errno) {
	if !p.has(thread) {
		return api.Event{}, api.ErrModelForm
	}
	t := p.threads[thread-1]
	if t.end.Ended || t.forEnd != 0 || t.forLock != 0 {
		return api.Event{}, api.ErrModelForm
	}
	told := t.machine.Step(t)
	if told.What == api.StepWait {
		told = api.Event{What: api.StepEnd, Err: api.ErrNoCells}
		t.ends(api.Ended{Ended: true, Err: api.ErrNoCells})
	} else if end := t.machine.Ended(); end.Ended {
		t.ends(end)
	}
	told.Actor = thread
	return told, api.OK
}

// ends lets a thread end: what it holds is handed on, who waits for its end goes.
func (t *plainThread) ends(end api.Ended) {
	t.end = end
	for lock, holder := range t.holders {
		if holder == t.number {
			t.handOn(lock)
		}
	}
	for _, other := range t.threads {
		if other.forEnd == t.number {
			other.forEnd = 0
		}
	}
}

// handOn hands a lock to who waits longest for it.
func (p *plain) handOn(lock int) {
	p.holders[lock] = 0
	var next *plainThread
	for _, other := range p.threads {
		if other.forLock == lock+1 && (next == nil || other.since < next.since) {
			next = other
		}
	}
	if next != nil {
		p.holders[lock], next.forLock = next.number, 0
	}
}

func (p *plain) Refuse(thread int) api.Errno {
	if !p.has(thread) || p.threads[thread-1].end.Ended {
		return api.ErrModelForm
	}
	p.threads[thread-1].refused = true
	return api.OK
}

func (p *plain) Ended(thread int) (api.Ended, api.Errno) {
	if !p.has(thread) {
		return api.Ended{}, api.ErrLocksNone
	}
	return p.threads[thread-1].end, api.OK
}

func (p *plain) Globals() []api.Word { return slices.Clone(p.globals) }

func (p *plain) Heap() []api.Cell {
	var out []api.Cell
	for n := range len(p.cells) {
		out = append(out, p.cells[n])
	}
	return out
}

func (t *plainThread) Load(cell, field int) api.Word {
	c, ok := t.cells[cell]
	if !ok {
		panic("no such cell")
	}
	return [2]api.Word{c.A, c.B}[field]
}

func (t *plainThread) Store(cell, field int, w api.Word) (api.Word, []int) {
	c := t.cells[cell]
	l := [2]*api.Word{&c.A, &c.B}
	old := *l[field]
	*l[field] = w
	t.cells[cell] = c
	return old, nil
}

func (t *plainThread) Cas(cell int, old, next api.Word) (api.Word, bool, []int) {
	c := t.cells[cell]
	if c.A != old {
		return c.A, false, nil
	}
	t.cells[cell] = api.Cell{Kind: c.Kind, A: next, B: c.B}
	return old, true, nil
}

func (t *plainThread) Add(cell int, n api.Word) (api.Word, api.Errno) {
	c := t.cells[cell]
	sum, e := words.Add(c.A, n)
	if e == api.OK {
		t.cells[cell] = api.Cell{Kind: c.Kind, A: sum, B: c.B}
	}
	return sum, e
}

func (t *plainThread) Kind(cell int) api.Kind { return t.cells[cell].Kind }

func (t *plainThread) Alloc(k api.Kind, a, b api.Word) (int, bool, []int) {
	if t.refused {
		return 0, false, nil
	}
	n := len(t.cells)
	t.cells[n] = api.Cell{Kind: k, A: a, B: b}
	return n, true, nil
}

func (t *plainThread) Global(i int) api.Word { return t.globals[i] }

func (t *plainThread) SetGlobal(i int, w api.Word) (api.Word, []int) {
	old := t.globals[i]
	t.globals[i] = w
	return old, nil
}

func (t *plainThread) Spawn(proc int, env api.Word) (int, api.Errno) { return t.begin(proc, env) }

func (t *plainThread) Join(thread int) (api.Word, bool, api.Errno) {
	switch {
	case !t.has(thread):
		return 0, false, api.ErrLocksNone
	case thread == t.number:
		return 0, false, api.ErrLocksSelf
	case !t.threads[thread-1].end.Ended:
		t.forEnd = thread
		return 0, false, api.OK
	}
	end := t.threads[thread-1].end
	return end.Word, true, end.Err
}

func (t *plainThread) Lock(n int) (bool, api.Errno) {
	switch {
	case n < 0 || n >= len(t.holders):
		return false, api.ErrLocksNone
	case t.holders[n] == t.number:
		return false, api.ErrLocksTwice
	case t.holders[n] != 0:
		t.moment++
		t.forLock, t.since = n+1, t.moment
		return false, api.OK
	}
	t.holders[n] = t.number
	return true, api.OK
}

func (t *plainThread) Unlock(n int) api.Errno {
	switch {
	case n < 0 || n >= len(t.holders):
		return api.ErrLocksNone
	case t.holders[n] != t.number:
		return api.ErrLocksNot
	}
	t.handOn(n)
	return api.OK
}
