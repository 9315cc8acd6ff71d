package world_test

import (
	"testing"

	"dapple/api"
	"dapple/compile"
	"dapple/forms"
	"dapple/names"
	"dapple/read"
	"dapple/show"
	"dapple/world"
)

// compiled is a source's code.
func compiled(t *testing.T, source string) api.Code {
	t.Helper()
	l, e, at := read.Read(source)
	if e != api.OK {
		t.Fatal(source, e, at)
	}
	var fs []api.Form
	for _, x := range l {
		f, e, path := forms.Of(x)
		if e != api.OK {
			t.Fatal(source, e, path)
		}
		fs = append(fs, f)
	}
	table, _ := names.New()
	c, e, form := compile.Compile(table, fs...)
	if e != api.OK {
		t.Fatal(source, e, form)
	}
	return c
}

// shown is the text of a word, of a world without symbols.
func shown(t *testing.T, w face, x api.Word) string {
	t.Helper()
	if x == 0 {
		return ""
	}
	s, e := show.Show(w.Heap(), nil, x)
	if e != api.OK {
		t.Fatal(x, e)
	}
	return s
}

// TestPrograms: whole programs come to what they say, on heaps that have far fewer cells than they take in all.
func TestPrograms(t *testing.T) {
	for _, row := range []struct {
		source, want string
		cells        int
	}{
		{"(car (cons 5 '()))", "5", 4},
		{"(define c (cons 1 2)) (set-cdr! c c) c", "#0=(1 . #0#)", 4},
		{"(define f (lambda (n) (if (< n 2) 1 (* n (f (- n 1)))))) (f 15)", "1307674368000", 40},
		{"(define r (lambda (l a) (if (null? l) a (r (cdr l) (cons (car l) a))))) (r '(1 2 3 4) '())", "(4 3 2 1)", 24},
		{"(define x (box 0)) (define i 0) (while (< i 300) (add x i) (set! i (+ i 1))) (unbox x)", "44850", 4},
		{"(define i 0) (define l '()) (while (< i 200) (set! l (cons i '())) (set! i (+ i 1))) l", "(199)", 4},
		{"(define m (lambda (a b c) (lambda () (set! b (+ b c)) (cons a b)))) (define k (m 1 2 3)) (k) (k)", "(1 . 8)", 12},
		{"(define b (box 0)) (define run (lambda (n) (while (< 0 n) (lock 0) (set-box! b (+ 1 (unbox b))) (unlock 0) (set! n (- n 1))))) (define u (spawn (lambda () (run 20)))) (define v (spawn (lambda () (run 20)))) (run 20) (join u) (join v) (unbox b)", "60", 16},
		{"(define b (box 0)) (define run (lambda (n) (while (< 0 n) (add b 1) (set! n (- n 1))))) (define u (spawn (lambda () (run 20)))) (run 20) (join u) (unbox b)", "40", 12},
		{"(define b (box '())) (define push (lambda (x) (let ((old (unbox b))) (if (cas b old (cons x old)) 0 (push x))))) (define u (spawn (lambda () (push 1) (push 1)))) (push 1) (push 1) (join u) (unbox b)", "(1 1 1 1)", 24},
		{"(define a (spawn (lambda () (cons 1 2)))) (define b (spawn (lambda () (cons 0 (join a))))) (cons (join b) (join a))", "((0 . #0=(1 . 2)) . #0#)", 16},
	} {
		w, e := world.New(api.Config{Cells: row.cells, Locks: 1}, compiled(t, row.source))
		if e != api.OK {
			t.Fatal(row.source, e)
		}
		w.Start(0)
		for range 400 {
			w.Settle(50)
			w.Collect()
			if end, _ := w.Ended(1); end.Ended {
				break
			}
		}
		end, _ := w.Ended(1)
		if got := shown(t, w, end.Word); !end.Ended || end.Err != api.OK || got != row.want {
			t.Errorf("%s: %q, not %q (%+v)", row.source, got, row.want, end)
		}
	}
}
