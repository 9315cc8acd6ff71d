package model_test

import (
	"math/rand"
	"testing"

	"dapple/api"
	"dapple/code"
)

// The globals of drawn code: one has a list, some pairs, some boxes, one a box with an integer, one anything, one a thread's
// number.
const (
	listGlobal   = 0
	pairGlobals  = 3 // the list's, 1, 2
	boxGlobals   = 2 // 3, 4
	countGlobal  = 5
	anyGlobal    = 6
	threadGlobal = 7
	drawnGlobals = 8
)

// The procedures of drawn code: one that lays all globals first, one without arguments, and some with one to three.
const (
	mainProc   = 0
	workerProc = 1
	firstFunc  = 2
)

// maker draws code that Check takes, and that goes on for long: what wants a pair or a box gets one, mostly.
type maker struct {
	*rand.Rand
	l      []api.Instr
	left   int   // how much more may come
	at     int   // the procedure at hand
	params []int // of all procedures
	locks  int
	wild   int // how seldom something is laid that does not fit; 0: never
	deep   int // how many pairs the list has at least, till somebody cuts it off
}

// drawnCode is code for so many locks; size is about how many parts each procedure has.
func drawnCode(r *rand.Rand, locks, size, wild int) api.Code {
	m := &maker{Rand: r, params: []int{0, 0, 1 + r.Intn(3), 1 + r.Intn(3)}, locks: locks, wild: wild, deep: 1 + r.Intn(7)}
	var l []api.Proc
	for i, params := range m.params {
		m.l, m.left, m.at = nil, size, i
		switch {
		case i == mainProc:
			m.setup()
			m.life()
		case i == workerProc:
			m.life()
		default:
			m.body()
		}
		l = append(l, proc(params, m.l...))
	}
	return coded(drawnGlobals, l...)
}

func (m *maker) put(op api.Op, a ...int) { m.l = append(m.l, do(op, a...)) }
func (m *maker) prim(p api.Prim)         { m.l = append(m.l, prim(p)) }
func (m *maker) odd() bool               { return m.wild > 0 && m.Intn(m.wild) == 0 }

// setup lays something into all globals.
func (m *maker) setup() {
	for range m.deep {
		m.constant()
	}
	m.l = append(m.l, layNil())
	for range m.deep {
		m.prim(api.PrimCons)
	}
	m.setGlobal(listGlobal)
	for i := 1; i < pairGlobals; i++ {
		if m.Intn(2) == 0 {
			m.put(api.OpGlobal, i-1)
		} else {
			m.constant()
			m.constant()
			m.prim(api.PrimCons)
		}
		m.setGlobal(i)
	}
	for i := range boxGlobals {
		if i > 0 && m.Intn(2) == 0 {
			m.put(api.OpGlobal, pairGlobals+i-1)
		} else {
			m.constant()
			m.prim(api.PrimBox)
		}
		m.setGlobal(pairGlobals + i)
	}
	m.small()
	m.prim(api.PrimBox)
	m.setGlobal(countGlobal)
	m.constant()
	m.setGlobal(anyGlobal)
	m.l = append(m.l, layInt(1))
	m.setGlobal(threadGlobal)
}

func (m *maker) setGlobal(i int) {
	m.put(api.OpSetGlobal, i)
	m.put(api.OpPop)
}

// life is actions, one behind the other; then an end, or all of them again.
func (m *maker) life() {
	begin := len(m.l)
	for m.left > 0 {
		m.action()
		m.put(api.OpPop)
	}
	if m.Intn(4) != 0 {
		m.put(api.OpJump, begin)
		return
	}
	m.value()
	m.put(api.OpReturn)
}

// body is that of a procedure that is called: it comes to an end.
func (m *maker) body() {
	for m.left > 0 {
		m.action()
		m.put(api.OpPop)
	}
	if m.Intn(4) == 0 {
		if n := m.operands(); n >= 0 {
			m.put(api.OpTail, n)
			return
		}
	}
	m.value()
	m.put(api.OpReturn)
}

// operands are a closure of a procedure behind the one at hand, so that no call goes on for ever, and its arguments; -1, and
// nothing, if there is none.
func (m *maker) operands() int {
	p := max(firstFunc, m.at+1)
	if p >= len(m.params) {
		return -1
	}
	p += m.Intn(len(m.params) - p)
	m.put(api.OpClosure, p)
	n := m.params[p]
	if m.odd() {
		n = m.Intn(3)
	}
	for range n {
		m.value()
	}
	return n
}

// constant is one.
func (m *maker) constant() {
	l := pool()
	if m.Intn(2) == 0 {
		m.put(api.OpConst, 31+m.Intn(len(l)-31))
	} else {
		m.small()
	}
}

func (m *maker) small() { m.put(api.OpConst, m.Intn(31)) }

// walk is a pair of the list: which one is drawn, and told.
func (m *maker) walk() int {
	m.put(api.OpGlobal, listGlobal)
	n := m.Intn(m.deep)
	for range n {
		m.prim(api.PrimCdr)
	}
	return n
}

// leaf is a value without parts.
func (m *maker) leaf() {
	switch n := m.Intn(9); {
	case n == 8:
		m.walk()
	case n < 3 && m.params[m.at] > 0:
		m.put(api.OpVar, m.Intn(m.params[m.at]))
	case n < 6:
		m.put(api.OpGlobal, m.Intn(anyGlobal+1))
	default:
		m.constant()
	}
}

// value puts any word on the stack.
func (m *maker) value() {
	m.left--
	if m.left <= 0 || m.Intn(4) == 0 {
		m.leaf()
		return
	}
	switch m.Intn(12) {
	case 0, 1, 2:
		m.value()
		m.value()
		m.prim(api.PrimCons)
	case 3:
		m.value()
		m.prim(api.PrimBox)
	case 4, 5, 6:
		m.pair()
		m.prim(api.PrimCar + api.Prim(m.Intn(2)))
	case 7:
		m.box()
		m.prim(api.PrimUnbox)
	case 8:
		m.put(api.OpClosure, m.Intn(len(m.params)))
	case 9:
		if n := m.operands(); n >= 0 {
			m.put(api.OpCall, n)
		} else {
			m.leaf()
		}
	case 10:
		m.choice()
	case 11:
		m.value()
		m.prim([]api.Prim{api.PrimNot, api.PrimIsNull, api.PrimIsPair, api.PrimIsInt}[m.Intn(4)])
	}
}

// choice is one of two values.
func (m *maker) choice() {
	m.value()
	m.put(api.OpBranch)
	other := len(m.l) - 1
	m.leaf()
	m.put(api.OpJump)
	end := len(m.l) - 1
	m.l[other].A = len(m.l)
	m.value()
	m.l[end].A = len(m.l)
}

// pair is a reference to a pair, mostly.
func (m *maker) pair() {
	switch n := m.Intn(6); {
	case m.odd():
		m.value()
	case n == 0:
		m.value()
		m.value()
		m.prim(api.PrimCons)
	case n < 4:
		m.walk()
	default:
		m.put(api.OpGlobal, 1+m.Intn(pairGlobals-1))
	}
}

// relist changes the list: it gets one more at its front, or goes on from some place at that one again, or at one ahead of it,
// so that it never ends.
func (m *maker) relist() {
	switch {
	case m.Intn(2) == 0:
		m.value()
		m.put(api.OpGlobal, listGlobal)
		m.prim(api.PrimCons)
		m.put(api.OpSetGlobal, listGlobal)
	default:
		n := m.walk()
		m.put(api.OpGlobal, listGlobal)
		for range m.Intn(n + 1) {
			m.prim(api.PrimCdr)
		}
		m.prim(api.PrimSetCdr)
	}
}

// box is a reference to a box, mostly.
func (m *maker) box() {
	switch n := m.Intn(6); {
	case m.odd():
		m.value()
	case n == 0:
		m.value()
		m.prim(api.PrimBox)
	default:
		m.put(api.OpGlobal, pairGlobals+m.Intn(boxGlobals))
	}
}

// action changes something, and puts one word on the stack.
func (m *maker) action() {
	m.left--
	switch m.Intn(18) {
	case 16:
		m.relist()
	case 17:
		m.put(api.OpGlobal, 1+m.Intn(pairGlobals-1))
		m.value()
		m.prim(api.PrimSetCdr)
	case 0, 1, 2:
		m.pair()
		m.value()
		m.prim(api.PrimSetCar)
	case 3, 4:
		m.box()
		m.value()
		m.prim(api.PrimSetBox)
	case 5, 6:
		m.exchange()
	case 7:
		m.put(api.OpGlobal, countGlobal)
		m.small()
		m.prim(api.PrimAdd)
	case 8, 9:
		m.pair()
		m.put(api.OpSetGlobal, 1+m.Intn(pairGlobals-1))
	case 10:
		m.box()
		m.put(api.OpSetGlobal, pairGlobals+m.Intn(boxGlobals))
	case 11:
		m.value()
		if n := m.params[m.at]; n > 0 {
			m.put(api.OpSetVar, m.Intn(n))
		} else {
			m.put(api.OpSetGlobal, anyGlobal)
		}
	case 12, 13:
		m.meeting()
	case 14:
		m.put(api.OpYield)
	case 15:
		m.value()
		if m.odd() {
			m.prim(api.PrimError)
		}
	}
}

// exchange is a cas: of what stands there, mostly.
func (m *maker) exchange() {
	box := pairGlobals + m.Intn(boxGlobals)
	m.put(api.OpGlobal, box)
	if m.Intn(3) == 0 {
		m.value()
	} else {
		m.put(api.OpGlobal, box)
		m.prim(api.PrimUnbox)
	}
	m.value()
	m.prim(api.PrimCas)
}

// meeting is something by which threads meet.
func (m *maker) meeting() {
	switch n := m.Intn(8); {
	case m.odd():
		m.l = append(m.l, layInt(int64(m.Intn(6)-1)))
		m.put([]api.Op{api.OpLock, api.OpUnlock, api.OpJoin}[m.Intn(3)])
	case n < 3:
		m.put(api.OpClosure, workerProc)
		m.put(api.OpSpawn)
		m.put(api.OpSetGlobal, threadGlobal)
	case n == 3:
		m.put(api.OpGlobal, threadGlobal)
		m.put(api.OpJoin)
	case m.locks > 0:
		lock := m.Intn(m.locks)
		m.l = append(m.l, layInt(int64(lock)), do(api.OpLock), do(api.OpPop))
		m.value()
		m.put(api.OpPop)
		m.value()
		m.put(api.OpPop)
		m.l = append(m.l, layInt(int64(lock)), do(api.OpUnlock))
	default:
		m.put(api.OpYield)
	}
}

// drawn is what a drawn model is made of: how many locks, and code.
func drawn(r *rand.Rand) (int, api.Code) {
	locks := r.Intn(4)
	return locks, drawnCode(r, locks, 1+r.Intn(40), []int{0, 60, 15}[r.Intn(3)])
}

// move is a call that changes a model.
type move struct {
	what moveKind
	n    int
}

type moveKind int

const (
	toStep moveKind = iota
	toStart
	toRefuse
)

// mover draws moves. Some refuse cells often, some never; some let one thread go for long, some each by turns.
type mover struct {
	*rand.Rand
	seldom int // how seldom a cell is refused; 0: never
	steady int // how seldom another thread is drawn
	lone   int // how many threads are begun at first
	at     int
}

func newMover(r *rand.Rand) *mover {
	return &mover{Rand: r, seldom: []int{0, 300, 30}[r.Intn(3)], steady: 1 + r.Intn(8), lone: 1 + r.Intn(4), at: 1}
}

// next is the next move.
func (m *mover) next() move {
	if m.lone > 0 {
		m.lone--
		return move{toStart, mainProc}
	}
	if m.Intn(m.steady) == 0 {
		m.at = 1 + m.Intn(api.MaxThreads)
	}
	switch n := m.Intn(120); {
	case n < 1:
		return move{toStart, m.Intn(6) - 1}
	case n < 3:
		return move{toStep, m.Intn(14) - 2}
	case m.seldom > 0 && m.Intn(m.seldom) == 0:
		return move{toRefuse, m.Intn(12) - 1}
	}
	return move{toStep, m.at}
}

// answer is what a move is answered.
type answer struct {
	event api.Event
	n     int
	e     api.Errno
}

func (a answer) same(b answer) bool { return same(a.event, b.event) && a.n == b.n && a.e == b.e }

// made makes a move.
func made(m face, x move) (a answer) {
	switch x.what {
	case toStep:
		a.event, a.e = m.Step(x.n)
	case toStart:
		a.n, a.e = m.Start(x.n)
	case toRefuse:
		a.e = m.Refuse(x.n)
	}
	return a
}

// TestDrawnCode: what is drawn is code that may be.
func TestDrawnCode(t *testing.T) {
	for seed := range int64(500) {
		_, c := drawn(rand.New(rand.NewSource(seed)))
		if e, p, at := code.Check(c); e != api.OK {
			t.Fatal(seed, e, p, at, c.Procs)
		}
	}
}
