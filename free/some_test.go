package free_test

import (
	"fmt"
	"math/rand"
	"strings"
	"testing"

	"dapple/api"
)

// crew is the source of threads that share a number x, a number y, a box b and a pair p: the first one lays these, and ends; each of
// the others waits for that, so that they begin at one time, and then goes through its body.
func crew(bodies ...string) string {
	s := "(define x 0) (define y 0) (define b (box 0)) (define p (cons 0 0))"
	for i, body := range bodies {
		s += fmt.Sprintf(" (define w%d (lambda () (join 1) %s))", i, body)
	}
	return s
}

// crewProcs are the procedures with which a crew begins: its first one, and those of which that makes closures.
func crewProcs(c api.Code) []int {
	l := []int{0}
	for _, in := range c.Procs[0].Code {
		if in.Op == api.OpClosure {
			l = append(l, in.A)
		}
	}
	return l
}

// someOrder runs a crew many times: each outcome is one that some order of steps comes to. How many of these there can be; how many
// are met hangs on the machine.
func someOrder(t *testing.T, c api.Config, runs int, bodies ...string) int {
	t.Helper()
	program := compiled(t, crew(bodies...))
	x := allOrders(t, c, program, crewProcs(program)...)
	for range runs {
		x.has()
	}
	return len(x.outcomes)
}

// crewCells are the cells that a crew's first thread takes.
func crewCells(bodies int) int { return 2 + bodies }

// TestSomeOrder: small crews of which it hangs on who comes first what they come to; how many outcomes there can be is known.
func TestSomeOrder(t *testing.T) {
	t.Parallel()
	for _, row := range []struct {
		can    int
		bodies []string
	}{
		// Both can't see what was there first: each lays down its own ahead of looking at the other one's.
		{3, []string{"(set! x 1) y", "(set! y 1) x"}},
		{3, []string{"(set-car! p 1) (cdr p)", "(set-cdr! p 1) (car p)"}},
		{3, []string{"(set! x 1) (unbox b)", "(set-box! b 1) x"}},
		// Who sees the second one sees the first one, too.
		{3, []string{"(set! x 1) (set! y 1)", "(cons y (cons x '()))"}},
		{3, []string{"(set-box! b 1) (set! y 1)", "(cons y (cons (unbox b) '()))"}},
		{3, []string{"(set! x (cons 1 2))", "(if (pair? x) (+ (car x) (cdr x)) x)"}},
		// Nobody sees them in two orders.
		{15, []string{"(set! x 1)", "(set! y 1)", "(cons x y)", "(cons y x)"}},
		{12, []string{"(set! x 1)", "(set! x 2)", "(cons x (cons x '()))"}},
		// What is added at one moment is not lost; what is read and then laid down can be.
		{6, []string{"(add b 1)", "(add b 1)", "(add b 1)"}},
		{90, []string{"(cons (add b 1) (add b 1))", "(cons (add b 1) (add b 1))", "(cons (add b 1) (add b 1))"}},
		{3, []string{"(set-box! b (+ 1 (unbox b)))", "(set-box! b (+ 1 (unbox b)))", "(set-box! b (+ 1 (unbox b)))"}},
		{3, []string{"(cas b 0 1)", "(cas b 0 2)", "(cas b 0 3)"}},
		{2, []string{"(cas b 0 1)", "(cas b 1 2)"}},
		// Under a lock nobody sees the midst.
		{2, []string{"(lock 0) (set! x 1) (set! y 1) (unlock 0)", "(lock 0) (set! x (cons x y)) (unlock 0)"}},
		{2, []string{"(lock 0) (set! x 1) (error 1)", "(lock 0) x"}},
		// Who is stuck, and who is not.
		{2, []string{"(lock 0) (lock 1) 5", "(lock 1) (lock 0) 5"}},
		{2, []string{"(set! x 3)", "(if (eq? x 3) (join 4))", "(join 3)"}},
		// Who ends by an error, and who joins that one.
		{2, []string{"(set! x '())", "(+ x 1)", "(join 3)"}},
		{2, []string{"(join (spawn (lambda () (add b 1))))", "(join (spawn (lambda () (add b 1))))"}},
	} {
		if can := someOrder(t, api.Config{Cells: roomy, Locks: 2}, 300, row.bodies...); can != row.can {
			t.Errorf("%q: %d outcomes, not %d", row.bodies, can, row.can)
		}
	}
}

// TestSomeOrderOfRefusals: too few cells: who gets one and who is refused hangs on who comes first.
func TestSomeOrderOfRefusals(t *testing.T) {
	t.Parallel()
	for _, row := range []struct {
		cells, can int
		bodies     []string
	}{
		{1, 2, []string{"(cons 1 2)", "(cons 3 4)"}},
		{2, 1, []string{"(cons 1 2)", "(cons 3 4)"}},
		{0, 1, []string{"(cons 1 2)", "(cons 3 4)"}},
		{2, 3, []string{"(cons 1 2)", "(cons 3 4)", "(cons 5 6)"}},
		{1, 2, []string{"(cons 1 2)", "(join 2)", "(box 5)"}},
		{1, 2, []string{"(lock 0) (cons 1 2)", "(lock 0) (cons 3 4)"}},
		{1, 3, []string{"(set! x (cons 1 2))", "(cons (unbox b) x)", "(set! y (box x)) (add b 1)"}},
		{2, 5, []string{"(cons 1 (cons 2 3))", "(set! x (box 4))", "(cons x 5)"}},
	} {
		c := api.Config{Cells: crewCells(len(row.bodies)) + row.cells, Locks: 1}
		if can := someOrder(t, c, 300, row.bodies...); can != row.can {
			t.Errorf("%q: %d outcomes, not %d", row.bodies, can, row.can)
		}
	}
}

// drawnBody is what one of a drawn crew does: it comes to a list of what it was told.
func drawnBody(r *rand.Rand, most int) string {
	l := strings.Split("x;y;(set! x 1);(set! x 2);(set! y x);(unbox b);(set-box! b 3);(set-box! b x);(add b 1);(add b -2);(cas b 0 1);(cas b (unbox b) 4);(car p);(cdr p);(set-car! p x);(set-cdr! p (cdr p));(set! x (cons 1 y));(set! y p);(set-car! p p);(if (eq? x 1) (set! y 5));(begin (lock 0) (set! x 5) (unlock 0));(begin (lock 1) (lock 0) (unlock 1));(lock 0);(unlock 0);(join 2);(join 3);(error 1);(car x);(yield);(spawn (lambda () (set! x 6)));(join (spawn (lambda () x)))", ";")
	s := "'()"
	for range 1 + r.Intn(most) {
		s = "(cons " + l[r.Intn(len(l))] + " " + s + ")"
	}
	return s
}

// TestSomeOrderDrawn: drawn crews, on cells that are enough and on few.
func TestSomeOrderDrawn(t *testing.T) {
	t.Parallel()
	can := 0
	for seed := range int64(160) {
		r := rand.New(rand.NewSource(seed))
		bodies := []string{drawnBody(r, 3), drawnBody(r, 3)}
		if r.Intn(3) == 0 {
			bodies = []string{drawnBody(r, 2), drawnBody(r, 1), drawnBody(r, 1)}
		}
		c := api.Config{Cells: roomy, Locks: 2}
		if r.Intn(3) == 0 {
			c.Cells = crewCells(len(bodies)) + r.Intn(3)
		}
		can += someOrder(t, c, 60, bodies...)
	}
	if can < 250 {
		t.Error("it hardly ever hangs on who comes first:", can)
	}
}
