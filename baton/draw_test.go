package baton_test

import (
	"fmt"
	"math/rand"
	"strings"
	"testing"

	"dapple/api"
)

// writer draws programs that go on for long: what wants a pair or a box gets one, mostly.
type writer struct {
	*rand.Rand
	locks int
	wild  int // how seldom something stands where it does not fit; 0: never
	local string
}

// drawnProgram is a source for a world with so many locks.
func drawnProgram(r *rand.Rand, locks, wild int) string {
	d := &writer{Rand: r, locks: locks, wild: wild}
	s := "(define p (cons 1 '())) (define q (cons p 2)) (define b (box 0)) (define c (box p)) (define n (box 0)) (define x 0) (define t 1)"
	d.local = "y"
	s += "(define f (lambda (y) " + d.value(2) + "))"
	d.local = "x"
	return s + "(define w (lambda () " + d.life() + "))" + d.life()
}

func (d *writer) odd() bool { return d.wild > 0 && d.Intn(d.wild) == 0 }

// one is one of these.
func (d *writer) one(l ...string) string { return l[d.Intn(len(l))] }

// life is actions, one behind the other; then an end, or all of them again.
func (d *writer) life() string {
	var l []string
	for range 1 + d.Intn(8) {
		l = append(l, d.action())
	}
	if d.Intn(4) == 0 {
		return "(begin " + strings.Join(l, " ") + " " + d.value(2) + ")"
	}
	return "(while #t " + strings.Join(l, " ") + ")"
}

// value is a form with at most so many others within one another.
func (d *writer) value(deep int) string {
	if deep == 0 || d.Intn(4) == 0 {
		return d.one("0", "1", "7", "'()", "#f", "'(1 2)", "p", "q", "b", "x", d.local)
	}
	deep--
	switch d.Intn(9) {
	case 0, 1, 2:
		return "(cons " + d.value(deep) + " " + d.value(deep) + ")"
	case 3:
		return "(box " + d.value(deep) + ")"
	case 4:
		return d.one("(car ", "(cdr ") + d.pair(deep) + ")"
	case 5:
		return "(unbox " + d.box(deep) + ")"
	case 6:
		return d.one("(if ", "(begin ") + d.value(deep) + " " + d.value(deep) + " " + d.value(deep) + ")"
	case 7:
		return "(let ((z " + d.value(deep) + ")) (cons z " + d.value(deep) + "))"
	default:
		if d.local == "y" {
			return "(lambda () " + d.value(deep) + ")"
		}
		return "(f " + d.value(deep) + ")"
	}
}

// pair is a pair, mostly.
func (d *writer) pair(deep int) string {
	if d.odd() {
		return d.value(deep)
	}
	return d.one("p", "q", "(cons 1 2)")
}

// box is a box, mostly.
func (d *writer) box(deep int) string {
	if d.odd() {
		return d.value(deep)
	}
	return d.one("b", "c", "n")
}

// action is a form that changes something.
func (d *writer) action() string {
	if d.odd() {
		return d.wrong()
	}
	switch d.Intn(12) {
	case 0:
		return d.one("(set-car! ", "(set-cdr! ") + d.pair(1) + " " + d.value(2) + ")"
	case 1:
		return d.one("(set! p (cons ", "(set! q (cons ") + d.value(2) + " " + d.value(1) + "))"
	case 2:
		return "(set-box! " + d.one("b", "c") + " " + d.value(2) + ")"
	case 3:
		return "(cas b " + d.one("(unbox b)", "0", "x") + " " + d.value(2) + ")"
	case 4:
		return "(add n 1)"
	case 5:
		return "(set! x " + d.value(3) + ")"
	case 6:
		return "(set! t (spawn " + d.one("w", "(lambda () "+d.value(2)+")") + "))"
	case 7:
		return "(if (< 1 t) (join t))"
	case 8, 9:
		return d.locked()
	case 10:
		return "(yield)"
	default:
		return d.value(3)
	}
}

// wrong is a form that ends its thread, mostly.
func (d *writer) wrong() string {
	n := fmt.Sprint(d.Intn(9))
	return d.one("(error "+n+")", "(lock "+n+")", "(lock 0) (lock 0)", "(unlock 0)", "(unlock "+n+")", "(join "+n+")", "("+n+")", "(f 1 "+n+")", "v")
}

// locked is a value, worked out under a lock.
func (d *writer) locked() string {
	if d.locks == 0 {
		return d.value(2)
	}
	n := d.Intn(d.locks)
	return fmt.Sprintf("(lock %d) %s (unlock %d)", n, d.value(2), n)
}

// drawn is what a drawn baton is made of.
func drawn(t testing.TB, r *rand.Rand) (api.Config, api.Code) {
	t.Helper()
	c := api.Config{Cells: 16 + r.Intn(40), Locks: r.Intn(3)}
	if r.Intn(4) == 0 {
		c.Cells = 4 + r.Intn(16)
	}
	return c, compiled(t, drawnProgram(r, c.Locks, []int{0, 60, 10}[r.Intn(3)]))
}

// move is a call that changes something, or may.
type move struct {
	what moveKind
	n    int
}

type moveKind int

const (
	toPick moveKind = iota
	toStart
	toCollect
	toSettle
)

// answer is what a move is answered.
type answer struct {
	event api.Event
	yes   bool
	n     int
	e     api.Errno
}

func (a answer) same(b answer) bool {
	return same(a.event, b.event) && a.yes == b.yes && a.n == b.n && a.e == b.e
}

// made makes a move.
func made(w face, x move) (a answer) {
	switch x.what {
	case toPick:
		a.event, a.yes = w.Pick(uint32(x.n))
	case toStart:
		a.n, a.e = w.Start(x.n)
	case toCollect:
		a.e = w.Collect()
	case toSettle:
		a.n = w.Settle(x.n)
	}
	return a
}

// mover draws moves. Some give the collector more turns, some fewer; some begin cycles as soon as they can, some seldom.
type mover struct {
	*rand.Rand
	eager int // of 8 picks, how many are the collector's, if it can go a step
	often int // how seldom a cycle is asked for
	lone  int // how many threads are begun at first
}

func newMover(r *rand.Rand) *mover {
	return &mover{Rand: r, eager: r.Intn(8), often: 1 + r.Intn(100), lone: 1 + r.Intn(3)}
}

// next is the next move of what stands so.
func (m *mover) next(w face) move {
	if m.lone > 0 {
		m.lone--
		return move{toStart, 0}
	}
	switch n := m.Intn(100); {
	case n < 1:
		return move{toStart, m.Intn(6) - 1}
	case n < 5:
		return move{toSettle, m.Intn(20) - 2}
	case m.Intn(m.often) == 0:
		return move{toCollect, 0}
	}
	ready := w.Ready()
	if len(ready) == 0 {
		return move{toCollect, 0}
	}
	at := m.Intn(1000 * len(ready))
	if ready[0] == 0 && m.Intn(8) < m.eager {
		at = 0
	}
	return move{toPick, at}
}
