package vm_test

import (
	"math/rand"
	"testing"

	"dapple/api"
	"dapple/code"
	"dapple/vm"
	"dapple/words"
)

// maker draws code that Check takes: each procedure is one expression, made of others, whose value is given back.
type maker struct {
	*rand.Rand
	params []int // of the procedures that there will be
	l      []api.Instr
	left   int // how much more may come
}

// drawnCode is code of some procedures; size is about how many parts each of them has.
func drawnCode(r *rand.Rand, procs, size int) api.Code {
	m := &maker{Rand: r, params: make([]int, procs)}
	for i := 1; i < procs; i++ {
		m.params[i] = r.Intn(4)
	}
	var l []api.Proc
	for _, params := range m.params {
		m.l, m.left = nil, size
		m.body()
		l = append(l, proc(params, m.l...))
	}
	return coded(l...)
}

func (m *maker) put(op api.Op, a ...int) { m.l = append(m.l, do(op, a...)) }

// hole is an instruction whose place is filled in later.
func (m *maker) hole(op api.Op) int {
	m.put(op)
	return len(m.l) - 1
}

func (m *maker) fill(hole int) { m.l[hole].A = len(m.l) }

// body is a whole procedure's.
func (m *maker) body() {
	if m.Intn(8) == 0 {
		// A loop to the very first place, where the depth is 0.
		m.value()
		m.l = append(m.l, do(api.OpPop))
		m.value()
		hole := m.hole(api.OpBranch)
		m.put(api.OpJump, 0)
		m.fill(hole)
	}
	if m.Intn(3) == 0 {
		n := m.operands()
		m.put(api.OpTail, n)
		return
	}
	m.value()
	m.put(api.OpReturn)
}

// operands are a closure, mostly, and as many arguments as it takes, mostly.
func (m *maker) operands() int {
	p := m.Intn(len(m.params))
	n := m.params[p]
	if m.Intn(8) == 0 {
		m.value()
	} else {
		m.put(api.OpClosure, p)
	}
	if m.Intn(12) == 0 {
		n = m.Intn(4)
	}
	for range n {
		m.value()
	}
	return n
}

// leaf is an expression without parts.
func (m *maker) leaf() {
	switch m.Intn(6) {
	case 0:
		m.put(api.OpVar, m.Intn(4))
	case 1:
		m.put(api.OpGlobal, m.Intn(8))
	case 2:
		m.put(api.OpClosure, m.Intn(len(m.params)))
	case 3:
		m.put(api.OpYield)
	default:
		l := pool()
		i := m.Intn(12)
		if m.Intn(3) == 0 {
			i = len(l) - 1 - m.Intn(9)
		}
		m.put(api.OpConst, i)
	}
}

// value is an expression: it puts one word on the stack.
func (m *maker) value() {
	m.left--
	if m.left <= 0 || m.Intn(5) == 0 {
		m.leaf()
		return
	}
	switch m.Intn(12) {
	case 0:
		m.value()
		m.put(api.OpSetVar, m.Intn(3))
	case 1:
		m.value()
		m.put(api.OpSetGlobal, m.Intn(8))
	case 2:
		n := m.operands()
		m.put(api.OpCall, n)
	case 3:
		m.choice()
	case 4:
		m.loop()
	case 5:
		m.value()
		m.put(api.OpPop)
		m.value()
	case 6:
		m.meeting()
	default:
		m.prim()
	}
}

// choice is one of two.
func (m *maker) choice() {
	m.value()
	other := m.hole(api.OpBranch)
	m.value()
	end := m.hole(api.OpJump)
	m.fill(other)
	m.value()
	m.fill(end)
}

// loop goes on till something is false.
func (m *maker) loop() {
	begin := len(m.l)
	m.value()
	end := m.hole(api.OpBranch)
	m.value()
	m.put(api.OpPop)
	m.put(api.OpJump, begin)
	m.fill(end)
	m.leaf()
}

// meeting is something by which threads meet.
func (m *maker) meeting() {
	switch m.Intn(4) {
	case 0:
		m.operands0()
		m.put(api.OpSpawn)
		return
	case 1:
		m.small()
		m.put(api.OpJoin)
	case 2:
		m.small()
		m.put(api.OpLock)
	case 3:
		m.small()
		m.put(api.OpUnlock)
	}
}

// operands0 is a closure, mostly one that takes nothing.
func (m *maker) operands0() {
	if m.Intn(4) == 0 {
		m.value()
		return
	}
	m.put(api.OpClosure, 0)
}

// small is an integer, mostly.
func (m *maker) small() {
	if m.Intn(8) == 0 {
		m.value()
		return
	}
	m.put(api.OpConst, m.Intn(8))
}

// prim is a primitive; one that wants a pair or a box gets a new one, mostly.
func (m *maker) prim() {
	x := api.Prim(1 + m.Intn(22))
	if x == api.PrimError && m.Intn(4) != 0 {
		x = api.PrimCons
	}
	n := arguments(x)
	switch {
	case m.Intn(6) == 0 || x == api.PrimCons || x == api.PrimBox || x >= api.PrimEq:
		m.value()
	case x <= api.PrimSetCdr:
		m.value()
		m.value()
		m.l = append(m.l, prim(api.PrimCons))
	default:
		m.value()
		m.l = append(m.l, prim(api.PrimBox))
	}
	for range n - 1 {
		if x >= api.PrimPlus && x <= api.PrimLess || x == api.PrimAdd {
			m.small()
		} else {
			m.value()
		}
	}
	m.l = append(m.l, prim(x))
}

// teller tells anything, drawn; kinds go by numbers. How wild it is says how seldom what it tells fits.
type teller struct {
	*rand.Rand
	procs int
	wild  int
}

// word is any word, or none.
func (t *teller) word() api.Word {
	switch t.Intn(10) {
	case 0, 1:
		return words.Ref(4 * t.Intn(6))
	case 2:
		return words.Ref(4*t.Intn(6) + 1)
	case 3:
		return words.Ref(4*t.Intn(6) + 2)
	case 4:
		if t.Intn(t.wild) == 0 {
			return words.Ref(t.Intn(1 << 31))
		}
	case 5:
		if t.Intn(t.wild) == 0 {
			return api.Word(t.Uint64())
		}
	case 6:
		l := pool()
		return l[len(l)-1-t.Intn(9)]
	}
	return number(int64(t.Intn(9) - 1))
}

func (t *teller) shaded() []int {
	if t.Intn(3) != 0 {
		return nil
	}
	l := []int{}
	for range t.Intn(4) {
		l = append(l, t.Intn(100))
	}
	return l
}

func (t *teller) error() api.Errno {
	if t.Intn(t.wild) != 0 {
		return api.OK
	}
	l := []api.Errno{api.ErrLocksNone, api.ErrLocksTwice, api.ErrLocksNot, api.ErrLocksSelf, api.ErrLocksMuch, api.ErrWordKind, api.ErrWordOver, api.ErrVMRaised}
	if t.Intn(3) == 0 {
		return api.Errno(1 + t.Intn(300))
	}
	return l[t.Intn(len(l))]
}

func (t *teller) Load(cell, field int) api.Word {
	if t.Intn(t.wild) == 0 {
		return t.word()
	}
	switch kindOf(cell) {
	case api.KindClosure:
		if field == 0 {
			return number(int64(t.Intn(t.procs)))
		}
		return words.Ref(4 * t.Intn(9))
	case api.KindPair:
		if field == 1 {
			return words.Ref(4 * t.Intn(9))
		}
	}
	return t.word()
}

func (t *teller) Store(int, int, api.Word) (api.Word, []int) { return t.word(), t.shaded() }

func (t *teller) Cas(_ int, old, next api.Word) (api.Word, bool, []int) {
	return t.word(), t.Intn(2) == 0, t.shaded()
}

func (t *teller) Add(_ int, n api.Word) (api.Word, api.Errno) {
	return t.word(), t.error()
}

func (t *teller) Kind(cell int) api.Kind { return kindOf(cell) }

func (t *teller) Alloc(k api.Kind, _, _ api.Word) (int, bool, []int) {
	if t.Intn(4) == 0 {
		return 0, false, nil
	}
	return 4*t.Intn(1000) + int(k-api.KindPair), true, t.shaded()
}

func (t *teller) Global(int) api.Word                       { return t.word() }
func (t *teller) SetGlobal(int, api.Word) (api.Word, []int) { return t.word(), t.shaded() }
func (t *teller) Spawn(int, api.Word) (int, api.Errno)      { return 1 + t.Intn(8), t.error() }
func (t *teller) Join(int) (api.Word, bool, api.Errno)      { return t.word(), t.Intn(3) != 0, t.error() }
func (t *teller) Lock(int) (bool, api.Errno)                { return t.Intn(2) == 0, t.error() }
func (t *teller) Unlock(int) api.Errno                      { return t.error() }

// drawnHeap is a heap with globals that are drawn, on which joins and locks are told at once.
func drawnHeap(r *rand.Rand) *heap {
	h := roomy()
	for range 8 {
		w := number(int64(r.Intn(5)))
		switch r.Intn(5) {
		case 0:
			w = nothing()
		case 1:
			w = words.Ref(r.Intn(4))
		}
		h.globals = append(h.globals, w)
	}
	for _, k := range []api.Kind{api.KindPair, api.KindPair, api.KindBox, api.KindBox} {
		h.cells = append(h.cells, api.Cell{Kind: k, A: number(3), B: nilWord()})
	}
	return h
}

// sources are pairs of the same teller, told from the same draws: a wild one, a mild one, a heap that has cells enough, one
// that has too few.
func sources(seed int64, procs int) (vm.Accesses, vm.Accesses) {
	one := func() vm.Accesses {
		r := rand.New(rand.NewSource(seed))
		switch r.Intn(4) {
		case 0:
			return &teller{r, procs, 4}
		case 1:
			return &teller{r, procs, 40}
		case 2:
			return drawnHeap(r)
		}
		h := drawnHeap(r)
		h.most = 5 + r.Intn(20)
		return h
	}
	return one(), one()
}

// TestDrawnCode: what is drawn is code that may be.
func TestDrawnCode(t *testing.T) {
	for seed := range int64(500) {
		r := rand.New(rand.NewSource(seed))
		c := drawnCode(r, 1+r.Intn(5), 1+r.Intn(40))
		if e, p, at := code.Check(c); e != api.OK {
			t.Fatal(seed, e, p, at, c.Procs)
		}
	}
}
