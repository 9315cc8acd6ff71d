package vm_test

import (
	"iter"
	"slices"

	"dapple/api"
	"dapple/vm"
	"dapple/words"
)

// plain is a thread as the chapter tells it, once more, from its beginning to its end: a function that goes through all
// instructions, and stands still behind each step. So what an instruction is in the midst of needs no record.
type plain struct {
	code    api.Code
	frames  []plainFrame
	stack   []api.Word
	request []api.Word
	refused bool
	ended   api.Ended

	h       vm.Accesses // who does the accesses of the step at hand
	access  api.Event   // that was made, and not told yet
	gone    int         // instructions, since the step's beginning
	tell    func(api.Event) bool
	next    func() (api.Event, bool)
	stop    func()
	most    int // the greatest height that the stack has had
	deepest int // the most frames that there were
}

// plainFrame is one of a plain thread's frames.
type plainFrame struct {
	proc, at int
	env      api.Word
	height   int
}

// left is what a plain thread is left with, from wherever it is.
type left struct{}

// newPlain is a plain thread; code and procedure must be such that New takes them. It must be stopped.
func newPlain(c api.Code, proc int, env api.Word) *plain {
	p := &plain{code: c, frames: []plainFrame{{proc: proc, env: env}}, deepest: 1}
	p.next, p.stop = iter.Pull(iter.Seq[api.Event](p.life))
	return p
}

// Step is the next event.
func (p *plain) Step(h vm.Accesses) api.Event {
	p.h = h
	event, _ := p.next()
	return event
}

func (p *plain) Ended() api.Ended { return p.ended }

func (p *plain) Refuse() api.Errno {
	if p.ended.Ended || p.request == nil || p.refused {
		return api.ErrArg
	}
	p.refused = true
	return api.OK
}

func (p *plain) Roots() []api.Word {
	if p.ended.Ended {
		if p.ended.Err != api.OK {
			return nil
		}
		return []api.Word{p.ended.Word}
	}
	l := slices.Clone(p.stack)
	for _, f := range p.frames {
		l = append(l, f.env)
	}
	return append(l, p.request...)
}

// life goes through all instructions.
func (p *plain) life(tell func(api.Event) bool) {
	p.tell = tell
	defer func() {
		if r := recover(); r != nil {
			if _, ok := r.(left); !ok {
				panic(r)
			}
		}
	}()
	for {
		f := &p.frames[len(p.frames)-1]
		i := p.code.Procs[f.proc].Code[f.at]
		f.at++
		p.instruction(i)
		p.gone++
		if p.access.What != 0 {
			p.step()
		} else if i.Op == api.OpYield || p.gone == 1000 {
			p.access = api.Event{What: api.StepBreath}
			p.step()
		}
	}
}

// step stands still: what was made is told, and the next step begins.
func (p *plain) step() {
	event := p.access
	p.access, p.gone = api.Event{}, 0
	if !p.tell(event) {
		panic(left{})
	}
}

// end ends the thread, with that event as its last one.
func (p *plain) end(event api.Event) {
	p.ended = api.Ended{Ended: true, Word: event.New, Err: event.Err}
	p.tell(event)
	panic(left{})
}

// wrong ends the thread by an error that no access tells.
func (p *plain) wrong(e api.Errno) { p.end(api.Event{What: api.StepEnd, Err: e}) }

func (p *plain) top() *api.Word { return &p.stack[len(p.stack)-1] }

func (p *plain) full() bool { return len(p.stack) == 256 }

func (p *plain) push(w api.Word) {
	if p.full() {
		p.wrong(api.ErrVMStack)
	}
	p.stack = append(p.stack, w)
	p.most = max(p.most, len(p.stack))
}

func (p *plain) pops(n int) []api.Word {
	l := slices.Clone(p.stack[len(p.stack)-n:])
	p.stack = p.stack[:len(p.stack)-n]
	return l
}

// isTo tells whether a word is a reference to a cell of a kind, and which.
func (p *plain) isTo(w api.Word, k api.Kind) (int, bool) {
	tag, n, _ := words.Of(w)
	if tag != api.TagRef || p.h.Kind(int(n)) != k {
		return 0, false
	}
	return int(n), true
}

func (p *plain) must(w api.Word, k api.Kind, e api.Errno) int {
	cell, ok := p.isTo(w, k)
	if !ok {
		p.wrong(e)
	}
	return cell
}

func (p *plain) load(cell, field int) api.Word {
	w := p.h.Load(cell, field)
	p.access = api.Event{What: api.StepLoad, Cell: cell, Field: field, Old: w, New: w}
	return w
}

func (p *plain) store(cell, field int, w api.Word) {
	old, shaded := p.h.Store(cell, field, w)
	p.access = api.Event{What: api.StepStore, Cell: cell, Field: field, Old: old, New: w, Shaded: shaded}
}

// alloc asks till there is a cell.
func (p *plain) alloc(k api.Kind, a, b api.Word) api.Word {
	for {
		cell, got, shaded := p.h.Alloc(k, a, b)
		if got {
			p.access = api.Event{What: api.StepAlloc, Cell: cell, Old: a, New: b, Shaded: shaded}
			return words.Ref(cell)
		}
		p.request = []api.Word{a, b}
		p.access = api.Event{What: api.StepWait}
		p.step()
		if p.refused {
			p.wrong(api.ErrNoCells)
		}
		p.request = nil
	}
}

func (p *plain) instruction(i api.Instr) {
	f := &p.frames[len(p.frames)-1]
	switch i.Op {
	case api.OpConst:
		p.push(p.code.Consts[i.A])
	case api.OpVar:
		p.up(i.A)
		w := p.load(p.must(*p.top(), api.KindPair, api.ErrVMUnset), 0)
		if tag, _, _ := words.Of(w); tag == api.TagNone {
			p.end(api.Event{What: api.StepLoad, Cell: p.access.Cell, Err: api.ErrVMUnset})
		}
		*p.top() = w
	case api.OpSetVar:
		p.up(i.A)
		p.store(p.must(*p.top(), api.KindPair, api.ErrVMUnset), 0, p.stack[len(p.stack)-2])
		p.pops(2)
		p.push(nothing())
	case api.OpGlobal:
		if p.full() {
			p.wrong(api.ErrVMStack)
		}
		w := p.h.Global(i.A)
		if tag, _, _ := words.Of(w); tag == api.TagNone {
			p.end(api.Event{What: api.StepGlobal, Other: i.A, Err: api.ErrVMUnset})
		}
		p.access = api.Event{What: api.StepGlobal, Other: i.A, Old: w, New: w}
		p.push(w)
	case api.OpSetGlobal:
		old, shaded := p.h.SetGlobal(i.A, *p.top())
		p.access = api.Event{What: api.StepSetGlobal, Other: i.A, Old: old, New: *p.top(), Shaded: shaded}
		*p.top() = nothing()
	case api.OpClosure:
		if p.full() {
			p.wrong(api.ErrVMStack)
		}
		p.push(p.alloc(api.KindClosure, number(int64(i.A)), f.env))
	case api.OpPop:
		p.pops(1)
	case api.OpJump:
		f.at = i.A
	case api.OpBranch:
		if p.pops(1)[0] == sole(api.TagFalse) {
			f.at = i.A
		}
	case api.OpCall, api.OpTail:
		p.call(i)
	case api.OpReturn:
		w := *p.top()
		p.stack = p.stack[:f.height]
		p.frames = p.frames[:len(p.frames)-1]
		if len(p.frames) == 0 {
			p.end(api.Event{What: api.StepEnd, New: w})
		}
		p.push(w)
	case api.OpPrim:
		p.prim(api.Prim(i.A))
	case api.OpYield:
		p.push(nothing())
	default:
		p.shared(i.Op)
	}
}

// up pushes the environment, and goes n places up.
func (p *plain) up(n int) {
	p.push(p.frames[len(p.frames)-1].env)
	for range n {
		*p.top() = p.load(p.must(*p.top(), api.KindPair, api.ErrVMUnset), 1)
		p.step()
	}
}

// open loads what a closure below n words has: its procedure's number, which is told, and its environment, which is pushed.
func (p *plain) open(n int, deeper bool) int {
	cell := p.must(p.stack[len(p.stack)-1-n], api.KindClosure, api.ErrVMCall)
	if deeper && len(p.frames) == 64 {
		p.wrong(api.ErrVMFrames)
	}
	w := p.load(cell, 0)
	p.step()
	tag, proc, _ := words.Of(w)
	switch {
	case tag != api.TagInt || proc < 0 || proc >= int64(len(p.code.Procs)):
		p.wrong(api.ErrVMCall)
	case p.code.Procs[proc].Params != n:
		p.wrong(api.ErrVMArgs)
	case p.full():
		p.wrong(api.ErrVMStack)
	}
	p.push(p.load(cell, 1))
	return int(proc)
}

func (p *plain) call(i api.Instr) {
	proc := p.open(i.A, i.Op == api.OpCall)
	first := len(p.stack) - 1 - i.A
	for a := range i.A {
		p.step()
		*p.top() = p.alloc(api.KindPair, p.stack[first+a], *p.top())
	}
	env := *p.top()
	p.pops(i.A + 2)
	if i.Op == api.OpTail {
		last := len(p.frames) - 1
		p.stack = p.stack[:p.frames[last].height]
		p.frames = p.frames[:last]
	}
	p.frames = append(p.frames, plainFrame{proc: proc, env: env, height: len(p.stack)})
	p.deepest = max(p.deepest, len(p.frames))
}

// shared are the instructions by which threads meet.
func (p *plain) shared(op api.Op) {
	if op == api.OpSpawn {
		proc := p.open(0, false)
		p.step()
		thread, e := p.h.Spawn(proc, *p.top())
		if e != api.OK {
			p.end(api.Event{What: api.StepSpawn, Err: e})
		}
		p.access = api.Event{What: api.StepSpawn, Other: thread, New: p.pops(2)[0]}
		p.push(number(int64(thread)))
		return
	}
	tag, n, _ := words.Of(*p.top())
	if tag != api.TagInt {
		p.wrong(api.ErrWordKind)
	}
	switch op {
	case api.OpJoin:
		for {
			w, now, e := p.h.Join(int(n))
			if e != api.OK {
				p.end(api.Event{What: api.StepJoin, Other: int(n), Err: e})
			}
			if now {
				p.access = api.Event{What: api.StepJoin, Other: int(n), New: w}
				*p.top() = w
				return
			}
			p.access = api.Event{What: api.StepWaitJoin, Other: int(n)}
			p.step()
		}
	case api.OpLock:
		now, e := p.h.Lock(int(n))
		if e != api.OK {
			p.end(api.Event{What: api.StepLock, Other: int(n), Err: e})
		}
		p.access = api.Event{What: api.StepLock, Other: int(n)}
		if !now {
			p.access.What = api.StepWaitLock
		}
	case api.OpUnlock:
		if e := p.h.Unlock(int(n)); e != api.OK {
			p.end(api.Event{What: api.StepUnlock, Other: int(n), Err: e})
		}
		p.access = api.Event{What: api.StepUnlock, Other: int(n)}
	}
	*p.top() = nothing()
}

// arguments is how many each primitive takes.
func arguments(x api.Prim) int {
	switch x {
	case api.PrimCas:
		return 3
	case api.PrimCar, api.PrimCdr, api.PrimBox, api.PrimUnbox, api.PrimIsNull, api.PrimIsPair, api.PrimIsInt, api.PrimNot, api.PrimError:
		return 1
	}
	return 2
}

func isTrue(is bool) api.Word {
	if is {
		return sole(api.TagTrue)
	}
	return sole(api.TagFalse)
}

func (p *plain) prim(x api.Prim) {
	n := arguments(x)
	w, e := p.value(x, p.stack[len(p.stack)-n:])
	if e != api.OK {
		p.wrong(e)
	}
	p.pops(n)
	p.push(w)
}

// value is a primitive's, or an error that no access tells.
func (p *plain) value(x api.Prim, a []api.Word) (api.Word, api.Errno) {
	switch x {
	case api.PrimCons:
		return p.alloc(api.KindPair, a[0], a[1]), api.OK
	case api.PrimBox:
		return p.alloc(api.KindBox, a[0], nilWord()), api.OK
	case api.PrimCar, api.PrimCdr:
		return p.load(p.must(a[0], api.KindPair, api.ErrWordKind), int(x-api.PrimCar)), api.OK
	case api.PrimSetCar, api.PrimSetCdr:
		p.store(p.must(a[0], api.KindPair, api.ErrWordKind), int(x-api.PrimSetCar), a[1])
		return nothing(), api.OK
	case api.PrimUnbox:
		return p.load(p.must(a[0], api.KindBox, api.ErrWordKind), 0), api.OK
	case api.PrimSetBox:
		p.store(p.must(a[0], api.KindBox, api.ErrWordKind), 0, a[1])
		return nothing(), api.OK
	case api.PrimCas:
		cell := p.must(a[0], api.KindBox, api.ErrWordKind)
		was, did, shaded := p.h.Cas(cell, a[1], a[2])
		p.access = api.Event{What: api.StepCas, Cell: cell, Old: was, New: was, Yes: did, Shaded: shaded}
		if did {
			p.access.New = a[2]
		}
		return isTrue(did), api.OK
	case api.PrimAdd:
		cell := p.must(a[0], api.KindBox, api.ErrWordKind)
		sum, e := p.h.Add(cell, a[1])
		if e != api.OK {
			p.end(api.Event{What: api.StepAdd, Cell: cell, Err: e})
		}
		p.access = api.Event{What: api.StepAdd, Cell: cell, New: sum}
		p.access.Old, _ = words.Sub(sum, a[1])
		return sum, api.OK
	case api.PrimIsPair:
		_, is := p.isTo(a[0], api.KindPair)
		return isTrue(is), api.OK
	}
	return pure(x, a)
}

// pure are the primitives that ask nobody.
func pure(x api.Prim, a []api.Word) (api.Word, api.Errno) {
	tag, _, _ := words.Of(a[0])
	switch x {
	case api.PrimEq:
		return isTrue(a[0] == a[1]), api.OK
	case api.PrimIsNull:
		return isTrue(tag == api.TagNil), api.OK
	case api.PrimIsInt:
		return isTrue(tag == api.TagInt), api.OK
	case api.PrimPlus:
		return words.Add(a[0], a[1])
	case api.PrimMinus:
		return words.Sub(a[0], a[1])
	case api.PrimTimes:
		return words.Mul(a[0], a[1])
	case api.PrimQuotient:
		return words.Quo(a[0], a[1])
	case api.PrimRemainder:
		return words.Rem(a[0], a[1])
	case api.PrimLess:
		is, e := words.Less(a[0], a[1])
		return isTrue(is), e
	case api.PrimNot:
		return isTrue(tag == api.TagFalse), api.OK
	}
	return 0, api.ErrVMRaised
}
