package vm_test

import (
	"math/rand"
	"reflect"
	"slices"
	"testing"

	"dapple/api"
	"dapple/vm"
	"dapple/words"
)

// both is a thread, and the same one as the chapter tells it, each told the same.
type both struct {
	desk
	x      *vm.Thread
	p      *plain
	xs, ps *notes
	last   api.Event
}

// newBoth makes both; p must be stopped.
func newBoth(t *testing.T, c api.Code, env api.Word, a, b vm.Accesses) *both {
	t.Helper()
	x, e := vm.New(c, 0, env)
	if e != api.OK {
		t.Fatal(e)
	}
	return &both{desk: desk{t}, x: x, p: newPlain(c, 0, env), xs: &notes{teller: a}, ps: &notes{teller: b}}
}

// sees holds what can be seen of both against each other.
func (b *both) sees() bool {
	b.Helper()
	if x, p := b.x.Roots(), b.p.Roots(); !slices.Equal(x, p) {
		b.Errorf("behind %+v: roots %v, not %v", b.last, x, p)
		return false
	}
	if x, p := b.x.Ended(), b.p.Ended(); x != p {
		b.Errorf("behind %+v: ended %+v, not %+v", b.last, x, p)
		return false
	}
	return true
}

// step goes one step of both; false, if they are not the same any more.
func (b *both) step() bool {
	b.Helper()
	ahead := b.x.Roots()
	x, p := b.x.Step(b.xs), b.p.Step(b.ps)
	if !same(x, p) {
		b.Errorf("behind %+v: %+v, not %+v", b.last, x, p)
		return false
	}
	b.last = x
	return b.accesses(ahead) && b.sees()
}

// accesses sees that the accesses of both were the same, that there was one just if the step is one, and that nothing was hidden.
func (b *both) accesses(ahead []api.Word) bool {
	b.Helper()
	all := slices.Clone(b.xs.calls)
	x, p := b.xs.taken(), b.ps.taken()
	if !reflect.DeepEqual(x, p) {
		b.Errorf("%+v: the accesses %v, not %v", b.last, x, p)
		return false
	}
	if len(x) > 1 || isAccess(b.last.What) != (len(x) == 1) {
		b.Errorf("%+v: the accesses %v", b.last, x)
		return false
	}
	for _, c := range all {
		for _, w := range named(c) {
			if _, is := words.Cell(w); is && !slices.Contains(ahead, w) {
				b.Errorf("%+v: %v names %d, which is not in the roots %v", b.last, c, w, ahead)
				return false
			}
		}
	}
	if _, is := words.Cell(b.last.New); is && b.last.What == api.StepEnd && !slices.Contains(ahead, b.last.New) {
		b.Errorf("%+v is not in the roots %v", b.last, ahead)
		return false
	}
	return true
}

// named are the words that a call names, with the reference to its cell.
func named(c call) []api.Word {
	switch c.name {
	case "Load", "Store", "Cas", "Add", "Kind":
		return append(slices.Clone(c.words), words.Ref(c.numbers[0]))
	}
	return c.words
}

// refuse refuses both, which must tell the same.
func (b *both) refuse() {
	b.Helper()
	if x, p := b.x.Refuse(), b.p.Refuse(); x != p {
		b.Errorf("behind %+v: Refuse: %d, not %d", b.last, x, p)
	}
}

// met counts what drawn threads met, so that a test can see that they met it all.
type met struct {
	whats map[api.What]int
	errs  map[api.Errno]int
	most  int
	deep  int
	spent int
}

func newMet() *met { return &met{whats: map[api.What]int{}, errs: map[api.Errno]int{}} }

// run goes steps till the end, or till there were so many; it is refused now and then.
func (b *both) run(r *rand.Rand, steps int, m *met) bool {
	b.Helper()
	defer b.p.stop()
	ok := b.sees()
	for i := 0; ok && i < steps && !b.x.Ended().Ended; i++ {
		if r.Intn(20) == 0 {
			b.refuse()
			ok = b.sees()
		}
		ok = ok && b.step()
		m.whats[b.last.What]++
		m.errs[b.last.Err]++
		m.spent++
	}
	m.most, m.deep = max(m.most, b.p.most), max(m.deep, b.p.deepest)
	if b.p.most > 256 || b.p.deepest > 64 {
		b.Errorf("%d words, %d frames", b.p.most, b.p.deepest)
		return false
	}
	return ok && (!b.x.Ended().Ended || b.step() && b.step())
}

// drawnRun runs what is drawn from a seed.
func drawnRun(t *testing.T, seed int64, m *met) bool {
	t.Helper()
	r := rand.New(rand.NewSource(seed))
	c := drawnCode(r, 1+r.Intn(5), 1+r.Intn(40))
	env := nilWord()
	if r.Intn(2) == 0 {
		env = words.Ref(4 * r.Intn(2))
	}
	one, other := sources(r.Int63(), len(c.Procs))
	return newBoth(t, c, env, one, other).run(r, 300, m)
}

// TestDrawnThreads: drawn code that is told what is drawn does what the chapter says, step by step; nothing is hidden, and
// each step makes one access at most.
func TestDrawnThreads(t *testing.T) {
	m := newMet()
	for seed := range int64(8000) {
		if !drawnRun(t, seed, m) {
			t.Fatal("seed", seed)
		}
	}
	for w := api.StepLoad; w <= api.StepEnd; w++ {
		if w != api.StepAck && m.whats[w] < 50 {
			t.Errorf("%d steps of %d", m.whats[w], w)
		}
	}
	for _, e := range []api.Errno{api.ErrNoCells, api.ErrVMFrames, api.ErrVMCall, api.ErrVMArgs, api.ErrVMRaised, api.ErrVMUnset, api.ErrWordKind, api.ErrWordZero, api.ErrWordOver, api.ErrLocksNone} {
		if m.errs[e] < 2 {
			t.Errorf("%d ends by %d", m.errs[e], e)
		}
	}
	if m.deep != 64 {
		t.Errorf("%d frames at most", m.deep)
	}
}

// TestDrawnDeep: the same with code that calls itself with much on the stack.
func TestDrawnDeep(t *testing.T) {
	m := newMet()
	for seed := range int64(300) {
		r := rand.New(rand.NewSource(seed))
		c := deepCode(r)
		h := func() vm.Accesses { return drawnHeap(rand.New(rand.NewSource(seed))) }
		if !newBoth(t, c, words.Ref(0), h(), h()).run(r, 2000, m) {
			t.Fatal("seed", seed)
		}
	}
	if m.errs[api.ErrVMStack] < 50 || m.errs[api.ErrVMFrames] < 20 || m.most != 256 || m.deep != 64 {
		t.Error(m.errs, m.most, m.deep)
	}
}

// deepCode are procedures each of which lays some words, and then calls another one.
func deepCode(r *rand.Rand) api.Code {
	var l []api.Proc
	n := 1 + r.Intn(3)
	for i := range n {
		var code []api.Instr
		height := r.Intn(12)
		for range height {
			code = append(code, lay(number(int64(r.Intn(9)))))
		}
		params := 0
		next := r.Intn(n)
		if next > 0 {
			params = next % 3
		}
		code = append(code, do(api.OpClosure, next))
		for range params {
			code = append(code, do(api.OpVar, 0))
		}
		code = append(code, do(api.OpCall, params), do(api.OpReturn))
		l = append(l, proc(i%3, code...))
	}
	return coded(l...)
}

// FuzzThreads: as TestDrawnThreads, from any seed.
func FuzzThreads(f *testing.F) {
	for seed := range int64(20) {
		f.Add(-1 - seed)
	}
	f.Fuzz(func(t *testing.T, seed int64) { drawnRun(t, seed, newMet()) })
}
