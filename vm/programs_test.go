package vm_test

import (
	"testing"

	"dapple/api"
	"dapple/compile"
	"dapple/forms"
	"dapple/names"
	"dapple/read"
	"dapple/show"
	"dapple/vm"
)

// compiled is a source's code.
func compiled(t *testing.T, source string) (api.Code, *names.Table) {
	t.Helper()
	l, e, at := read.Read(source)
	if e != api.OK {
		t.Fatal(source, e, at)
	}
	var fs []api.Form
	for _, x := range l {
		f, e, path := forms.Of(x)
		if e != api.OK {
			t.Fatal(source, e, path)
		}
		fs = append(fs, f)
	}
	table, _ := names.New()
	c, e, form := compile.Compile(table, fs...)
	if e != api.OK {
		t.Fatal(source, e, form)
	}
	return c, table
}

// TestPrograms: whole programs come to what they say.
func TestPrograms(t *testing.T) {
	for source, want := range map[string]string{
		"(car (cons 5 '()))":                                                                               "5",
		"(define c (cons 1 2)) (set-cdr! c c) c":                                                           "#0=(1 . #0#)",
		"(define f (lambda (n) (if (< n 2) 1 (* n (f (- n 1)))))) (f 15)":                                  "1307674368000",
		"(define r (lambda (l a) (if (null? l) a (r (cdr l) (cons (car l) a))))) (r '(1 2 3 4) '())":       "(4 3 2 1)",
		"(define x (box 0)) (define i 0) (while (< i 300) (add x i) (set! i (+ i 1))) (unbox x)":           "44850",
		"(define m (lambda (a b c) (lambda () (set! b (+ b c)) (cons a b)))) (define k (m 1 2 3)) (k) (k)": "(1 . 8)",
		"(let ((a 1) (b 2)) (let ((c (+ a b))) (- c (quotient 7 2))))":                                     "0",
		"(define x (box 1)) (cons (cas x 2 3) (cons (cas x 1 4) (unbox x)))":                               "(#f #t . 4)",
	} {
		c, table := compiled(t, source)
		x, e := vm.New(c, 0, nilWord())
		if e != api.OK {
			t.Fatal(source, e)
		}
		h := roomy()
		h.most = 5000
		for range c.Globals {
			h.globals = append(h.globals, nothing())
		}
		for left := 20000; left > 0 && !x.Ended().Ended; left-- {
			x.Step(h)
		}
		end := x.Ended()
		got, e := show.Show(h.cells, listed(table), end.Word)
		if !end.Ended || end.Err != api.OK || e != api.OK || got != want {
			t.Errorf("%s: %q, not %q (%+v, %d)", source, got, want, end, e)
		}
	}
}

// listed are all names of a table.
func listed(table *names.Table) []string {
	var l []string
	for {
		s, ok := table.Name(len(l))
		if !ok {
			return l
		}
		l = append(l, s)
	}
}
