package model_test

import (
	"math/rand"
	"slices"
	"sync"
	"testing"

	"dapple/api"
	"dapple/model"
)

// spoil writes over a list, and over the room behind it.
func spoil[T any](l []T, with T) {
	l = l[:cap(l)]
	for i := range l {
		l[i] = with
	}
}

// spoilAll writes over each list that a model gives out.
func spoilAll(m face) {
	spoil(m.Globals(), 77)
	spoil(m.Heap(), api.Cell{Kind: 9, Colour: 9, A: 77, B: 77})
}

// TestSpoiltAllTheWay: drawn models, where each list that comes out is written over at once, answer as those whose lists nobody
// touches: so do two that are stepped in the same order.
func TestSpoiltAllTheWay(t *testing.T) {
	t.Parallel()
	for seed := range int64(250) {
		r := rand.New(rand.NewSource(seed + 4000))
		locks, code := drawn(r)
		spoilt, _ := model.New(locks, code)
		left, _ := model.New(locks, code)
		from := newMover(r)
		for range 250 {
			x := from.next()
			a, b := made(spoilt, x), made(left, x)
			if !a.same(b) {
				t.Fatalf("seed %d: %v: %+v, not %+v", seed, x, a, b)
			}
			spoil(a.event.Shaded, -7)
			spoilAll(spoilt)
			if s := seen(spoilt).differs(seen(left)); s != "" {
				t.Fatalf("seed %d: behind %v: %s", seed, x, s)
			}
		}
	}
}

// TestListsShareNoMemory: what came out once stays, whatever is done then; with other lists, and with what comes behind.
func TestListsShareNoMemory(t *testing.T) {
	for seed := range int64(60) {
		r := rand.New(rand.NewSource(seed + 4000))
		locks, code := drawn(r)
		m, _ := model.New(locks, code)
		from := newMover(r)
		var kept sight
		var copied sight
		for n := range 200 {
			if n%10 == 0 {
				kept = seen(m)
				copied = sight{globals: slices.Clone(kept.globals), heap: slices.Clone(kept.heap), ended: kept.ended, errs: kept.errs}
			}
			made(m, from.next())
			spoilAll(m)
			if s := kept.differs(copied); s != "" {
				t.Fatalf("seed %d: %s", seed, s)
			}
		}
	}
}

// TestCellsStay: a cell's number is never another one's: what is made is made behind all others, none goes, none changes its kind,
// and all are white.
func TestCellsStay(t *testing.T) {
	t.Parallel()
	for seed := range int64(300) {
		r := rand.New(rand.NewSource(seed + 8000))
		locks, code := drawn(r)
		m, _ := model.New(locks, code)
		from := newMover(r)
		var kinds []api.Kind
		for range 300 {
			a := made(m, from.next())
			if a.event.What == api.StepAlloc {
				if a.event.Cell != len(kinds) {
					t.Fatalf("%+v behind %d cells", a.event, len(kinds))
				}
				kinds = append(kinds, m.Heap()[len(kinds)].Kind)
			}
			h := m.Heap()
			if len(h) != len(kinds) {
				t.Fatal(len(h), len(kinds))
			}
			for i, c := range h {
				if c.Kind != kinds[i] || c.Kind == api.KindFree || c.Colour != api.White {
					t.Fatalf("cell %d: %+v", i, c)
				}
			}
			if len(a.event.Shaded) != 0 {
				t.Fatalf("%+v", a.event)
			}
		}
	}
}

// TestSameOrderTwice: threads that are stepped in the same order do the same, event by event.
func TestSameOrderTwice(t *testing.T) {
	for seed := range int64(100) {
		var first []answer
		for again := range 2 {
			r := rand.New(rand.NewSource(seed))
			locks, code := drawn(r)
			m, _ := model.New(locks, code)
			from := newMover(r)
			for n := range 300 {
				a := made(m, from.next())
				if again == 0 {
					first = append(first, a)
				} else if !a.same(first[n]) {
					t.Fatalf("seed %d: %+v, then %+v", seed, first[n], a)
				}
			}
		}
	}
}

// TestTwoModels side by side, of one code: what is done in one is nothing to the other.
func TestTwoModels(t *testing.T) {
	code := coded(2, proc(0, some(take(0), newPair(1), one(do(api.OpSetGlobal, 0), do(api.OpPop)), pause(), one(layNil()), ret())...), consing())
	one, _ := model.New(1, code)
	other, _ := model.New(1, code)
	d, o := desk{t, one}, desk{t, other}
	d.starts(0, 1)
	o.changesNothing(func() { d.skips(1, api.StepLock, api.StepAlloc, api.StepSetGlobal) })
	o.starts(0, 1)
	d.refuses(2)
	d.changesNothing(func() {
		o.goes(2, allocs(0, number(5), null()))
		o.goes(1, of(api.StepLock, 0))
		o.goes(1, allocs(1, number(1), null()))
		o.skips(2, api.StepLoad, api.StepEnd)
	})
	d.goes(2, fails(api.ErrNoCells))
	o.over(2, number(5), api.OK)
	d.globals(ref(0), nothing())
	o.globals(nothing(), nothing())
}

// TestModelsByTurns: many drawn models, a move each in turn, answer as each of them alone does.
func TestModelsByTurns(t *testing.T) {
	const models = 5
	for seed := range int64(30) {
		var moves [models][]move
		var alone [models][]answer
		var turns [models]*model.Model
		for i := range models {
			r := rand.New(rand.NewSource(seed*models + int64(i)))
			locks, code := drawn(r)
			turns[i], _ = model.New(locks, code)
			m, _ := model.New(locks, code)
			from := newMover(r)
			for range 150 {
				x := from.next()
				moves[i], alone[i] = append(moves[i], x), append(alone[i], made(m, x))
			}
		}
		for n := range 150 {
			for i := range models {
				if a := made(turns[i], moves[i][n]); !a.same(alone[i][n]) {
					t.Fatalf("%v: %+v by turns, %+v alone", moves[i][n], a, alone[i][n])
				}
			}
		}
	}
}

// TestModelsBeside: models that are gone through by goroutines, one each, of one code, come to what they come to.
func TestModelsBeside(t *testing.T) {
	code := drawnCode(rand.New(rand.NewSource(3)), 2, 30, 0)
	come := func(seed int64) sight {
		m, _ := model.New(2, code)
		from := newMover(rand.New(rand.NewSource(seed)))
		for range 600 {
			made(m, from.next())
		}
		return seen(m)
	}
	var wait sync.WaitGroup
	got := make([]sight, 16)
	for i := range got {
		wait.Go(func() { got[i] = come(int64(i)) })
	}
	wait.Wait()
	for i, s := range got {
		if x := s.differs(come(int64(i))); x != "" {
			t.Error(i, x)
		}
	}
}

// TestRefusedCallsChangeNothing: in drawn states; what they change that can't be seen at once is not seen later, either.
func TestRefusedCallsChangeNothing(t *testing.T) {
	for seed := range int64(100) {
		r := rand.New(rand.NewSource(seed))
		locks, code := drawn(r)
		m, _ := model.New(locks, code)
		left, _ := model.New(locks, code)
		d := desk{t, m}
		from := newMover(r)
		for range 150 {
			x := from.next()
			if a, b := made(m, x), made(left, x); !a.same(b) {
				t.Fatalf("seed %d: %v: %+v, not %+v", seed, x, a, b)
			}
			d.changesNothing(func() {
				for _, p := range []int{-1, firstFunc, len(code.Procs)} {
					if n, e := m.Start(p); n != 0 || e != api.ErrArg {
						t.Fatal(p, n, e)
					}
				}
				if threads(m) == api.MaxThreads {
					if n, e := m.Start(mainProc); n != 0 || e != api.ErrLocksMuch {
						t.Fatal(n, e)
					}
				}
				for n := range 11 {
					end, e := m.Ended(n)
					if e == api.OK && !end.Ended {
						continue
					}
					if x, e := m.Step(n); e != api.ErrModelForm || !same(x, api.Event{}) {
						t.Fatal(n, x, e)
					}
					if e := m.Refuse(n); e != api.ErrModelForm {
						t.Fatal(n, e)
					}
				}
			})
		}
	}
}
