package world_test

import (
	"slices"

	"dapple/api"
	"dapple/vm"
	"dapple/words"
)

// plain is a world as the chapters tell it, once more, in the plainest way and without the layers between: cells in a list,
// what each thread waits for written down at that thread, and a list of those who wait for a cell, each with what it was given.
type plain struct {
	code    api.Code
	cells   []api.Cell
	globals []api.Word
	holders []int
	threads []*plainThread
	asking  []*plainThread // those who wait for a cell, the longest first
	grey    []int

	phase  api.Phase
	asked  bool // a cycle is asked for
	laid   int
	swept  int
	freed  int
	begun  int
	moment int // one for each step
}

// plainThread is one of its threads.
type plainThread struct {
	*plain
	number  int
	machine *vm.Thread

	unscanned bool
	told      bool // it was asked for its roots

	forCell bool
	begunAt int // when it asked for one
	gift    int // the cell that it was given, and 1 more
	forEnd  int // the thread for whose end it waits
	forLock int // the lock for which it waits, and 1 more
	since   int
}

// newPlain is a plain world; it must be such that New takes it.
func newPlain(c api.Config, code api.Code) *plain {
	p := &plain{code: code, cells: make([]api.Cell, c.Cells), holders: make([]int, c.Locks)}
	for range code.Globals {
		p.globals = append(p.globals, nothing())
	}
	return p
}

func (p *plain) Start(proc int) (int, api.Errno) { return p.begin(proc, null(), false) }

func (p *plain) begin(proc int, env api.Word, unscanned bool) (int, api.Errno) {
	if proc < 0 || proc >= len(p.code.Procs) || p.code.Procs[proc].Params != 0 {
		return 0, api.ErrArg
	}
	if len(p.threads) == 8 {
		return 0, api.ErrLocksMuch
	}
	machine, _ := vm.New(p.code, proc, env)
	p.threads = append(p.threads, &plainThread{plain: p, number: len(p.threads) + 1, machine: machine, unscanned: unscanned})
	return len(p.threads), api.OK
}

func (p *plain) Collect() api.Errno {
	if p.asked || p.phase != api.PhaseIdle {
		return api.ErrBusy
	}
	p.asked = true
	return api.OK
}

func (t *plainThread) can() bool {
	return !t.machine.Ended().Ended && !t.forCell && t.forEnd == 0 && t.forLock == 0
}

// left is the least thread that is not scanned.
func (p *plain) left() *plainThread {
	for _, t := range p.threads {
		if t.unscanned {
			return t
		}
	}
	return nil
}

// held tells whether the collector waits for a thread.
func (p *plain) held() bool {
	t := p.left()
	return p.phase == api.PhaseRoots && p.laid == len(p.globals) && t != nil && t.told && t.can()
}

func (p *plain) Ready() []int {
	var l []int
	if (p.asked || p.phase != api.PhaseIdle) && !p.held() {
		l = append(l, 0)
	}
	for _, t := range p.threads {
		if t.can() {
			l = append(l, t.number)
		}
	}
	return l
}

func (p *plain) Pick(n uint32) (api.Event, bool) {
	l := p.Ready()
	if len(l) == 0 {
		return api.Event{}, false
	}
	return p.step(l[int(n)%len(l)]), true
}

func (p *plain) Settle(most int) int {
	gone := 0
	for {
		round := p.Ready()
		if len(round) == 0 {
			return gone
		}
		for _, actor := range round {
			if gone >= most || gone >= 1000000 {
				return gone
			}
			if slices.Contains(p.Ready(), actor) {
				p.step(actor)
				gone++
			}
		}
	}
}

func (p *plain) step(actor int) api.Event {
	p.moment++
	if actor == 0 {
		return p.collect()
	}
	t := p.threads[actor-1]
	if t.told {
		t.told, t.unscanned = false, false
		return api.Event{Actor: actor, What: api.StepAck, Shaded: p.shade(t.machine.Roots()...)}
	}
	e := t.machine.Step(t)
	e.Actor = actor
	if t.machine.Ended().Ended {
		t.ends()
	}
	return e
}

// ends wakes who waits for a thread that has ended, and hands its locks on.
func (t *plainThread) ends() {
	for _, o := range t.threads {
		if o.forEnd == t.number {
			o.forEnd = 0
		}
	}
	for lock, holder := range t.holders {
		if holder == t.number {
			t.handOn(lock)
		}
	}
}

// handOn hands a lock to the one who waits for it since longest.
func (p *plain) handOn(lock int) {
	var next *plainThread
	for _, t := range p.threads {
		if t.forLock == lock+1 && (next == nil || t.since < next.since) {
			next = t
		}
	}
	p.holders[lock] = 0
	if next != nil {
		p.holders[lock] = next.number
		next.forLock = 0
	}
}

// shade makes what words name grey, if it is white and not free: what became so.
func (p *plain) shade(l ...api.Word) []int {
	var out []int
	for _, w := range l {
		tag, n, ok := words.Of(w)
		if !ok || tag != api.TagRef || p.cells[n].Kind == api.KindFree || p.cells[n].Colour != api.White {
			continue
		}
		p.cells[n].Colour = api.Grey
		out = append(out, int(n))
	}
	p.grey = append(p.grey, out...)
	return out
}

// collect is a step of the collector's.
func (p *plain) collect() api.Event {
	t := p.left()
	switch {
	case p.asked:
		return p.collectBegin()
	case p.phase == api.PhaseRoots && p.laid < len(p.globals):
		p.laid++
		return api.Event{What: api.StepRoot, Other: p.laid - 1, Shaded: p.shade(p.globals[p.laid-1])}
	case p.phase == api.PhaseRoots && t != nil && t.can():
		t.told = true
		return api.Event{What: api.StepAsk, Other: t.number}
	case p.phase == api.PhaseRoots && t != nil:
		t.unscanned = false
		return api.Event{What: api.StepScanThread, Other: t.number, Shaded: p.shade(t.machine.Roots()...)}
	case p.phase != api.PhaseSweep && len(p.grey) > 0:
		p.phase = api.PhaseMark
		cell := p.grey[0]
		p.grey = p.grey[1:]
		e := api.Event{What: api.StepScan, Cell: cell, Shaded: p.shade(p.cells[cell].A, p.cells[cell].B)}
		p.cells[cell].Colour = api.Black
		return e
	case p.phase != api.PhaseSweep:
		p.phase = api.PhaseSweep
		return api.Event{What: api.StepCheck}
	case p.swept < len(p.cells):
		return p.collectSweep()
	}
	return p.collectFinish()
}

func (p *plain) collectBegin() api.Event {
	p.asked, p.phase = false, api.PhaseRoots
	p.begun++
	for _, t := range p.threads {
		t.unscanned = true
	}
	return api.Event{What: api.StepBegin, Other: p.begun}
}

func (p *plain) collectSweep() api.Event {
	e := api.Event{What: api.StepSweep, Cell: p.swept}
	c := &p.cells[p.swept]
	p.swept++
	if c.Kind == api.KindFree || c.Colour == api.Black {
		c.Colour = api.White
		return e
	}
	*c = api.Cell{}
	p.freed++
	e.Yes = true
	if len(p.asking) > 0 {
		t := p.asking[0]
		p.asking = p.asking[1:]
		t.forCell, t.gift = false, e.Cell+1
		e.Other = t.number
	}
	return e
}

func (p *plain) collectFinish() api.Event {
	e := api.Event{What: api.StepFinish, Other: p.freed}
	var stay []*plainThread
	for _, t := range p.asking {
		if p.freed == 0 && t.begunAt < p.begun {
			t.forCell = false
			t.machine.Refuse()
		} else {
			stay = append(stay, t)
		}
	}
	p.asking = stay
	p.phase, p.laid, p.swept, p.freed = api.PhaseIdle, 0, 0, 0
	return e
}

// over is the barrier of a word that is laid over another one.
func (t *plainThread) over(old, next api.Word) []int {
	switch {
	case !isOn(t.phase):
		return nil
	case t.unscanned:
		return t.shade(old, next)
	}
	return t.shade(old)
}

func (t *plainThread) field(cell, field int) *api.Word {
	return [2]*api.Word{&t.cells[cell].A, &t.cells[cell].B}[field]
}

func (t *plainThread) Load(cell, field int) api.Word { return *t.field(cell, field) }

func (t *plainThread) Store(cell, field int, w api.Word) (api.Word, []int) {
	old := *t.field(cell, field)
	*t.field(cell, field) = w
	return old, t.over(old, w)
}

func (t *plainThread) Cas(cell int, old, next api.Word) (api.Word, bool, []int) {
	was := t.cells[cell].A
	if was != old {
		return was, false, nil
	}
	t.cells[cell].A = next
	return was, true, t.over(was, next)
}

func (t *plainThread) Add(cell int, n api.Word) (api.Word, api.Errno) {
	sum, e := words.Add(t.cells[cell].A, n)
	if e != api.OK {
		return 0, e
	}
	t.cells[cell].A = sum
	return sum, api.OK
}

func (t *plainThread) Kind(cell int) api.Kind { return t.cells[cell].Kind }

func (t *plainThread) Alloc(k api.Kind, a, b api.Word) (int, bool, []int) {
	cell := t.gift - 1
	if l := t.Free(); cell < 0 && len(l) > 0 {
		cell = l[0]
	}
	if cell < 0 {
		t.forCell, t.begunAt = true, t.begun
		t.asking = append(t.asking, t)
		return 0, false, nil
	}
	t.gift = 0
	t.cells[cell] = api.Cell{Kind: k, A: a, B: b}
	if isOn(t.phase) || t.phase == api.PhaseSweep && cell >= t.swept {
		t.cells[cell].Colour = api.Black
	}
	if isOn(t.phase) && t.unscanned {
		return cell, true, t.shade(a, b)
	}
	return cell, true, nil
}

func (t *plainThread) Global(i int) api.Word { return t.globals[i] }

func (t *plainThread) SetGlobal(i int, w api.Word) (api.Word, []int) {
	old := t.globals[i]
	t.globals[i] = w
	return old, t.over(old, w)
}

func (t *plainThread) Spawn(proc int, env api.Word) (int, api.Errno) {
	return t.begin(proc, env, t.unscanned)
}

func (t *plainThread) Join(thread int) (api.Word, bool, api.Errno) {
	switch {
	case thread < 1 || thread > len(t.threads):
		return 0, false, api.ErrLocksNone
	case thread == t.number:
		return 0, false, api.ErrLocksSelf
	}
	if end := t.threads[thread-1].machine.Ended(); end.Ended {
		return end.Word, true, end.Err
	}
	t.forEnd = thread
	return 0, false, api.OK
}

func (t *plainThread) Lock(n int) (bool, api.Errno) {
	switch {
	case n < 0 || n >= len(t.holders):
		return false, api.ErrLocksNone
	case t.holders[n] == t.number:
		return false, api.ErrLocksTwice
	case t.holders[n] == 0:
		t.holders[n] = t.number
		return true, api.OK
	}
	t.forLock, t.since = n+1, t.moment
	return false, api.OK
}

func (t *plainThread) Unlock(n int) api.Errno {
	switch {
	case n < 0 || n >= len(t.holders):
		return api.ErrLocksNone
	case t.holders[n] != t.number:
		return api.ErrLocksNot
	}
	t.handOn(n)
	return api.OK
}

func (p *plain) Steps() int              { return p.moment }
func (p *plain) Threads() int            { return len(p.threads) }
func (p *plain) Phase() (api.Phase, int) { return p.phase, p.begun }
func (p *plain) Heap() []api.Cell        { return slices.Clone(p.cells) }
func (p *plain) Globals() []api.Word     { return slices.Clone(p.globals) }

func (p *plain) Free() []int {
	var l []int
	for n, c := range p.cells {
		given := slices.ContainsFunc(p.threads, func(t *plainThread) bool { return t.gift == n+1 })
		if c.Kind == api.KindFree && !given {
			l = append(l, n)
		}
	}
	return l
}

func (p *plain) Waiting() []api.Waiter {
	var l []api.Waiter
	for _, t := range p.asking {
		l = append(l, api.Waiter{Thread: t.number, Begun: t.begunAt})
	}
	return l
}

func (p *plain) Roots() []api.Word {
	var l []api.Word
	for _, t := range p.threads {
		l = append(l, t.machine.Roots()...)
	}
	return append(l, p.globals...)
}

func (p *plain) Ended(thread int) (api.Ended, api.Errno) {
	if thread < 1 || thread > len(p.threads) {
		return api.Ended{}, api.ErrWorldThread
	}
	return p.threads[thread-1].machine.Ended(), api.OK
}

func (p *plain) View() api.View {
	v := api.View{Cells: p.Heap(), Phase: p.phase, Swept: p.swept, Grey: slices.Clone(p.grey), Globals: p.Globals()}
	if isOn(p.phase) {
		v.Laid = p.laid
	}
	for _, t := range p.threads {
		v.Lanes = append(v.Lanes, api.Lane{Roots: t.machine.Roots(), Scanned: !t.unscanned, Ended: t.machine.Ended().Ended})
	}
	return v
}
