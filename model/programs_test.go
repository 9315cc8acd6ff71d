package model_test

import (
	"math/rand"
	"testing"

	"dapple/api"
	"dapple/model"
)

// program is a source, what it comes to, and how many cells of a world are enough for it.
type program struct {
	source, want string
	cells        int
}

func programs() []program {
	return []program{
		{"(car (cons 5 '()))", "5", 4},
		{"(define c (cons 1 2)) (set-cdr! c c) c", "#0=(1 . #0#)", 4},
		{"(define f (lambda (n) (if (< n 2) 1 (* n (f (- n 1)))))) (f 9)", "362880", 40},
		{"(define r (lambda (l a) (if (null? l) a (r (cdr l) (cons (car l) a))))) (r '(1 2 3 4) '())", "(4 3 2 1)", 24},
		{"(define x (box 0)) (define i 0) (while (< i 30) (add x i) (set! i (+ i 1))) (unbox x)", "435", 8},
		{"(define i 0) (define l '()) (while (< i 40) (set! l (cons i '())) (set! i (+ i 1))) l", "(39)", 8},
		{"(define m (lambda (a b c) (lambda () (set! b (+ b c)) (cons a b)))) (define k (m 1 2 3)) (k) (k)", "(1 . 8)", 16},
		{"(define b (box 0)) (define run (lambda (n) (while (< 0 n) (lock 0) (set-box! b (+ 1 (unbox b))) (unlock 0) (set! n (- n 1))))) (define u (spawn (lambda () (run 5)))) (define v (spawn (lambda () (run 5)))) (run 5) (join u) (join v) (unbox b)", "15", 24},
		{"(define b (box '())) (define push (lambda (x) (let ((old (unbox b))) (if (cas b old (cons x old)) 0 (push x))))) (define u (spawn (lambda () (push 1) (push 1)))) (push 1) (push 1) (join u) (unbox b)", "(1 1 1 1)", 40},
		{"(define a (spawn (lambda () (cons 1 2)))) (define b (spawn (lambda () (cons 0 (join a))))) (cons (join b) (join a))", "((0 . #0=(1 . 2)) . #0#)", 24},
		{"(define rev (lambda (l a) (if (null? l) a (rev (cdr l) (cons (car l) a))))) (define u (spawn (lambda () (rev (rev '(1 2 3) '()) '())))) (cons (rev '(4 5) '()) (rev (join u) '()))", "((5 4) 3 2 1)", 64},
	}
}

// run lets threads of a model go in a drawn order, till the first one has ended.
func run(t testing.TB, m face, r *rand.Rand) {
	t.Helper()
	for range 100000 {
		if end, _ := m.Ended(1); end.Ended {
			return
		}
		m.Step(1 + r.Intn(threads(m)))
	}
	t.Fatal("it does not end")
}

// TestPrograms: whole programs come to what they say, whoever goes first.
func TestPrograms(t *testing.T) {
	for _, row := range programs() {
		code := compiled(t, row.source)
		for seed := range int64(10) {
			m, e := model.New(1, code)
			if e != api.OK {
				t.Fatal(row.source, e)
			}
			m.Start(0)
			run(t, m, rand.New(rand.NewSource(seed)))
			end, _ := m.Ended(1)
			if got := shown(t, m.Heap(), end.Word); end.Err != api.OK || got != row.want {
				t.Errorf("%s: %q, not %q (%+v)", row.source, got, row.want, end)
			}
		}
	}
}

// TestHeapNeverEnds: far more cells than any world has, each with a number of its own, and all of them stay as they are.
func TestHeapNeverEnds(t *testing.T) {
	const many = 3 * api.MaxCells
	d := newDesk(t, 0, 1, proc(0, layNil(), do(api.OpSetGlobal, 0), do(api.OpPop), layInt(1), do(api.OpGlobal, 0), prim(api.PrimCons), do(api.OpJump, 1)),
		proc(0, some(newPair(2), one(do(api.OpPop), do(api.OpJump, 0)))...))
	d.starts(0, 1)
	d.goes(1, sets(0, nothing(), null()))
	old := null()
	for n := range many {
		d.goes(1, finds(0, old))
		next := allocs(2*n, number(1), old)
		d.goes(1, next)
		d.goes(1, sets(0, old, ref(2*n)))
		d.goes(2, allocs(2*n+1, number(2), null()))
		old = ref(2 * n)
	}
	h := d.m.Heap()
	if len(h) != 2*many {
		t.Fatal(len(h))
	}
	for n := range many {
		want := pair(number(1), null())
		if n > 0 {
			want.B = ref(2*n - 2)
		}
		if h[2*n] != want || h[2*n+1] != pair(number(2), null()) {
			t.Fatal(n, h[2*n], h[2*n+1])
		}
	}
	d.refuses(1)
	d.skips(1, api.StepGlobal)
	d.goes(1, fails(api.ErrNoCells))
	d.goes(2, allocs(2*many, number(2), null()))
}
