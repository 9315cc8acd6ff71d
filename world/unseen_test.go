package world_test

import (
	"math/rand"
	"testing"

	"dapple/api"
	"dapple/world"
)

// mirror goes through what the threads of a world do on a heap on which no cycle ever runs, and which has room enough. The cells
// have other numbers there.
type mirror struct {
	*testing.T
	w     face
	there map[int]int // the number there of each cell that was filled last under a number here
}

func newMirror(t *testing.T, locks int, code api.Code) *mirror {
	t.Helper()
	w, e := world.New(api.Config{Cells: 320, Locks: locks}, code)
	if e != api.OK {
		t.Fatal(e)
	}
	return &mirror{T: t, w: w, there: map[int]int{}}
}

// word is a word with the number that its cell has there.
func (m *mirror) word(w api.Word) api.Word {
	if isRef(w) {
		return ref(m.there[cellOf(w)])
	}
	return w
}

// isOwn tells whether a step stays when those are taken away that the collector brings about.
func isOwn(e api.Event) bool {
	return e.Actor != 0 && e.What != api.StepAck && e.What != api.StepWait
}

// follows lets the same thread go a step there, which must be the same, but for what is shaded and cells' numbers.
func (m *mirror) follows(e api.Event) bool {
	m.Helper()
	got := picked(m, m.w, e.Actor)
	if e.What == api.StepAlloc {
		m.there[e.Cell] = got.Cell
	}
	want := e
	want.Shaded, want.Old, want.New = nil, m.word(e.Old), m.word(e.New)
	if e.What >= api.StepLoad && e.What <= api.StepAlloc {
		want.Cell = m.there[e.Cell]
	}
	if !same(got, want) {
		m.Errorf("%+v, not %+v", got, want)
		return false
	}
	return true
}

// alike sees that the threads have ended alike, and that all that is live is there, with the same words.
func (m *mirror) alike(w face) bool {
	m.Helper()
	for n := range w.Threads() {
		is, _ := w.Ended(n + 1)
		got, e := m.w.Ended(n + 1)
		is.Word = m.word(is.Word)
		if e != api.OK || got != is {
			m.Errorf("thread %d: %+v, not %+v", n+1, got, is)
			return false
		}
	}
	globals := m.w.Globals()
	for i, g := range w.Globals() {
		if globals[i] != m.word(g) {
			m.Error("global", i)
			return false
		}
	}
	here, there, taken := w.Heap(), m.w.Heap(), map[int]int{}
	for n, is := range live(w) {
		if !is {
			continue
		}
		a, b := here[n], there[m.there[n]]
		taken[m.there[n]]++
		if taken[m.there[n]] > 1 || a.Kind != b.Kind || b.A != m.word(a.A) || b.B != m.word(a.B) {
			m.Errorf("cell %d: %+v, not %+v", n, b, a)
			return false
		}
	}
	return true
}

// TestTheCollectorIsNotSeen: what is left of drawn worlds, when what the collector brings about is taken away, is what their
// threads do on a heap on which no cycle ever runs; up to the first one that is refused.
func TestTheCollectorIsNotSeen(t *testing.T) {
	t.Parallel()
	own, others, cycles := 0, 0, 0
	for seed := range int64(1500) {
		r := rand.New(rand.NewSource(seed + 90000))
		c, code := drawnWorld(r)
		w, _ := world.New(c, code)
		m := newMirror(t, c.Locks, code)
		from := newMover(r)
		from.often = 1 + r.Intn(30)
	run:
		for range 300 {
			x := from.next(w)
			if x.what == toSettle {
				continue
			}
			a := made(w, x)
			switch {
			case x.what == toStart:
				m.w.Start(x.n)
			case !a.yes:
			case a.event.Err == api.ErrNoCells:
				break run
			case isOwn(a.event):
				own++
				if !m.follows(a.event) || !m.alike(w) {
					t.Fatal("seed", seed)
				}
			default:
				others++
			}
			if isOver(w) {
				break
			}
		}
		_, begun := w.Phase()
		cycles += begun
	}
	if own < 50000 || others < 50000 || cycles < 1500 {
		t.Error(own, "steps of threads,", others, "others,", cycles, "cycles")
	}
}

// TestUnseenWhenever: a program that reverses lists in two threads, and adds up, answers the same, whoever is picked, and
// however often cycles are begun between two of its steps (DOC.md, example 5).
func TestUnseenWhenever(t *testing.T) {
	code := compiled(t, `
		(define rev (lambda (l a) (if (null? l) a (rev (cdr l) (cons (car l) a)))))
		(define sum (lambda (l n) (if (null? l) n (sum (cdr l) (+ n (* 10 (car l)))))))
		(define u (spawn (lambda () (rev (rev '(1 2 3) '()) '()))))
		(cons (sum (rev '(4 5) '()) 0) (rev (join u) '()))`)
	for seed := range int64(60) {
		r := rand.New(rand.NewSource(seed))
		w, _ := world.New(api.Config{Cells: 40 + r.Intn(60)}, code)
		w.Start(0)
		every := 1 + int(seed)
		for n := range 40000 {
			if n%every == 0 {
				w.Collect()
			}
			if _, did := w.Pick(r.Uint32()); !did && w.Collect() == api.OK {
				continue
			}
			if end, _ := w.Ended(1); end.Ended {
				break
			}
		}
		end, _ := w.Ended(1)
		if got := shown(t, w, end.Word); end.Err != api.OK || got != "(90 3 2 1)" {
			t.Fatalf("seed %d: %+v, %q", seed, end, got)
		}
	}
}
