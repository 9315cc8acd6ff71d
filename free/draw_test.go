package free_test

import (
	"fmt"
	"math/rand"
	"strings"
	"testing"

	"dapple/api"
)

// writer draws programs that come to an end.
type writer struct {
	*rand.Rand
	locks int
	wild  int    // how seldom something stands where it does not fit; 0: never
	known string // names that can be used
}

func (d *writer) odd() bool { return d.wild > 0 && d.Intn(d.wild) == 0 }

// one is one of these.
func (d *writer) one(l ...string) string { return l[d.Intn(len(l))] }

// name is one that can be used.
func (d *writer) name() string { return d.one(strings.Fields(d.known)...) }

// shared are the definitions of what all drawn programs have: two pairs, two boxes, a number.
const shared = "(define p (cons 1 '())) (define q (cons p 2)) (define b (box 0)) (define c (box p)) (define x 0)"

// value is a form with at most so many others within one another.
func (d *writer) value(deep int) string {
	if deep == 0 || d.Intn(5) == 0 {
		return d.one("0", "1", "7", "'()", "#f", "'s", d.name(), d.name())
	}
	deep--
	switch d.Intn(10) {
	case 0, 1:
		return "(cons " + d.value(deep) + " " + d.value(deep) + ")"
	case 2:
		return "(box " + d.value(deep) + ")"
	case 3:
		return d.one("(car ", "(cdr ") + d.pair(deep) + ")"
	case 4:
		return "(unbox " + d.box(deep) + ")"
	case 5:
		return "(if " + d.value(deep) + " " + d.value(deep) + " " + d.value(deep) + ")"
	case 6:
		return "(let ((z " + d.value(deep) + ")) (cons z " + d.value(deep) + "))"
	case 7:
		return "((lambda (y) (begin " + d.action(deep) + " (cons y x))) " + d.value(deep) + ")"
	case 8:
		return d.one("(eq? ", "(cons ") + d.value(deep) + " " + d.value(deep) + ")"
	default:
		return "(begin " + d.action(deep) + " " + d.value(deep) + ")"
	}
}

// pair is a pair, mostly.
func (d *writer) pair(deep int) string {
	if d.odd() {
		return d.value(deep)
	}
	return d.one("p", "q", "(cons 1 2)")
}

// box is a box, mostly.
func (d *writer) box(deep int) string {
	if d.odd() {
		return d.value(deep)
	}
	return d.one("b", "c", "(box 3)")
}

// action is a form that changes something.
func (d *writer) action(deep int) string {
	if d.odd() {
		return d.wrong()
	}
	if deep == 0 {
		return d.one("(add b 1)", "(set! x b)", "(set-car! p x)", "(yield)")
	}
	deep--
	switch d.Intn(9) {
	case 0:
		return d.one("(set-car! ", "(set-cdr! ") + d.pair(deep) + " " + d.value(deep) + ")"
	case 1:
		return d.one("(set! p (cons ", "(set! q (cons ") + d.value(deep) + " " + d.value(deep) + "))"
	case 2:
		return "(set-box! c " + d.value(deep) + ")"
	case 3:
		return "(cas " + d.one("b (unbox b) (+ 1 (unbox b)))", "c p q)", "c "+d.value(deep)+" "+d.value(deep)+")")
	case 4:
		return "(add b " + d.one("1", "-3") + ")"
	case 5:
		return "(set! x " + d.value(deep) + ")"
	case 6:
		return d.locked(deep)
	case 7:
		return fmt.Sprintf("(let ((i 0)) (while (< i %d) %s (set! i (+ i 1))))", d.Intn(4), d.action(deep))
	default:
		return "(yield)"
	}
}

// wrong is a form that ends its thread, mostly.
func (d *writer) wrong() string {
	n := fmt.Sprint(d.Intn(9))
	return d.one("(error "+n+")", "(lock "+n+")", "(lock 0) (lock 0)", "(unlock 0)", "(join 1)", "(join 9)", "("+n+")", "((lambda (y) y))", "(+ b 1)", "undefined")
}

// locked is an action under a lock.
func (d *writer) locked(deep int) string {
	if d.locks == 0 {
		return d.action(deep)
	}
	n := d.Intn(d.locks)
	return fmt.Sprintf("(lock %d) %s (unlock %d)", n, d.action(0), n)
}

// lone is a drawn program of one thread, and what it is run with.
func lone(t testing.TB, r *rand.Rand) (api.Config, api.Code) {
	t.Helper()
	d := &writer{Rand: r, locks: r.Intn(3), wild: []int{0, 60, 15}[r.Intn(3)], known: "p q b c x"}
	s := shared
	for range 1 + r.Intn(12) {
		s += " " + d.one(d.action(4), d.value(4))
	}
	c := api.Config{Cells: 60 + r.Intn(400), Locks: d.locks}
	if r.Intn(3) == 0 {
		c.Cells = 4 + r.Intn(40)
	}
	return c, compiled(t, s)
}

// countdown is code of a thread that counts a box down, two steps for each 1, goes so many breaths, and ends: in all
// 2 n + yields + 3 steps.
func countdown(t testing.TB, n, yields int) api.Code {
	t.Helper()
	text := fmt.Sprintf("const int %d\nconst int 0\nconst int -1\nglobal b\nproc 0\n const 0\n prim 6\n setglobal 0\n pop\n const 1\n global 0\n const 2\n prim 10\n prim 20\n branch 11\n jump 4\n", n)
	return parsed(t, text+strings.Repeat(" yield\n pop\n", yields)+" const 1\n return\n")
}
