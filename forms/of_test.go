package forms_test

import (
	"slices"
	"strings"
	"testing"

	"dapple/api"
	"dapple/forms"
	"dapple/read"
)

// TestKeywords: each as a form, as a name, as what is quoted, as an argument.
func TestKeywords(t *testing.T) {
	for _, s := range keywords() {
		k := sym(s)
		gives(t, k, noName())
		for _, out := range arounds() {
			gives(t, out.datum(k), noName(out.path...))
		}
		gives(t, list(sym("f"), k), noName(1))
		gives(t, list(sym("car"), k), noName(1))
		gives(t, list(sym("lambda"), list(k), num(1)), noName(1, 0))
		gives(t, list(sym("lambda"), list(sym("x"), k), num(1)), noName(1, 1))
		gives(t, list(sym("let"), list(list(k, num(1))), num(1)), noName(1, 0, 0))
		gives(t, list(sym("define"), k, num(1)), noName(1))
		gives(t, list(sym("set!"), k, num(1)), noName(1))
		gives(t, list(sym("quote"), k), fine(quote(k)))
		gives(t, list(list(sym("quote"), k), num(1)), fine(call(quote(k), one)))
		refused(t, name(s), api.ErrFormsName)
		refused(t, call(name(s), one), api.ErrFormsName)
		refused(t, lambda(s, one), api.ErrFormsName)
		refused(t, let(s, one, one), api.ErrFormsName)
		refused(t, named(api.FormDefine, s, one), api.ErrFormsName)
		refused(t, named(api.FormSet, s, one), api.ErrFormsName)
		taken(t, quote(k), list(sym("quote"), k))
	}
}

// arguments are so many.
func arguments(n int) ([]api.Datum, []api.Form) {
	return slices.Repeat([]api.Datum{num(1)}, n), slices.Repeat([]api.Form{one}, n)
}

// TestPrimitives: each as a form, as a name, as what is called with one argument less, with as many as it takes, with one more, with none.
func TestPrimitives(t *testing.T) {
	names, args := primitives()
	for i, s := range names {
		p := sym(s)
		gives(t, p, fine(name(s)))
		taken(t, name(s), p)
		for _, out := range arounds() {
			gives(t, out.datum(p), fine(out.form(name(s))))
		}
		for n := range 6 {
			l, kids := arguments(n)
			d, f := list(append([]api.Datum{p}, l...)...), call(append([]api.Form{name(s)}, kids...)...)
			if n == args[i] {
				gives(t, d, fine(f))
				taken(t, f, d)
				continue
			}
			gives(t, d, noForm())
			gives(t, list(sym("f"), d), noForm(1))
			refused(t, f, api.ErrFormsForm)
			refused(t, begin(x, f), api.ErrFormsForm)
			if n > 0 {
				gives(t, put(d, []int{n}, sym("if")), noForm())
			}
			gives(t, list(sym("quote"), d), fine(quote(d)))
		}
		gives(t, list(sym("lambda"), list(p), num(1)), noName(1, 0))
		gives(t, list(sym("let"), list(list(p, num(1))), num(1)), noName(1, 0, 0))
		gives(t, list(sym("define"), p, num(1)), noName(1))
		gives(t, list(sym("set!"), p, num(1)), noName(1))
		refused(t, lambda(s, one), api.ErrFormsName)
		refused(t, let(s, one, one), api.ErrFormsName)
		refused(t, named(api.FormDefine, s, one), api.ErrFormsName)
		refused(t, named(api.FormSet, s, one), api.ErrFormsName)
	}
}

// TestListsThatAreNone: the empty one, and those with a dot, wherever a form stands; within a quote they may be.
func TestListsThatAreNone(t *testing.T) {
	for _, s := range []string{"()", "(x . y)", "(if x . y)", "(if x y . z)", "(quote . x)", "(quote x . y)", "(lambda () . x)", "(lambda () 1 . x)", "(define x . 1)", "(let () . 1)", "(begin . x)", "(while x . y)",
		"(spawn . x)", "(yield . x)", "(car . x)", "(cons x . y)", "(x y . z)", "(1 . 2)", "(() . x)"} {
		d := datum(t, s)
		gives(t, d, noForm())
		gives(t, list(d), noForm(0))
		gives(t, list(sym("quote"), d), fine(quote(d)))
		for _, out := range arounds() {
			gives(t, out.datum(d), noForm(out.path...))
			gives(t, out.datum(list(sym("quote"), d)), fine(out.form(quote(d))))
		}
	}
}

// TestListsOfNames: what stands for one and is none.
func TestListsOfNames(t *testing.T) {
	givesAll(t, map[string]told{
		"(lambda 1 1)":                 noForm(1),
		"(lambda x 1)":                 noForm(1),
		"(lambda if 1)":                noForm(1),
		"(lambda #f 1)":                noForm(1),
		"(lambda (x . y) 1)":           noForm(1),
		"(lambda (x x . y) 1)":         noForm(1),
		"(lambda (1 . y) 1)":           noForm(1),
		"(lambda () 1)":                fine(lambda("", one)),
		"(lambda (()) 1)":              noName(1, 0),
		"(lambda ((x)) 1)":             noName(1, 0),
		"(lambda (x (y)) 1)":           noName(1, 1),
		"(lambda (x (y . z)) 1)":       noName(1, 1),
		"(lambda (1) 1)":               noName(1, 0),
		"(lambda (x #f) 1)":            noName(1, 1),
		"(lambda (x y #t) 1)":          noName(1, 2),
		"(lambda 'x 1)":                noName(1, 0),
		"(lambda (x quote y) 1)":       noName(1, 1),
		"(lambda (car) 1)":             noName(1, 0),
		"(lambda (x car car) 1)":       noName(1, 1),
		"(lambda (x if x) 1)":          noName(1, 1),
		"(lambda (x x if) 1)":          twice(1, 1),
		"(lambda (x y x y) 1)":         twice(1, 2),
		"(lambda (x y y x) (if))":      twice(1, 2),
		"(lambda (x) (if))":            noForm(2),
		"(lambda (x) x () if)":         noForm(3),
		"(lambda (x) x if ())":         noName(3),
		"(lambda (x X) 1)":             fine(lambda("x X", one)),
		"(lambda (x) (lambda (x) x))":  fine(lambda("x", lambda("x", x))),
		"(lambda (x) (let ((x x)) x))": fine(lambda("x", let("x", x, x))),
		"(define (f x) 1)":             noName(1),
		"(define () 1)":                noName(1),
		"(define 1 1)":                 noName(1),
		"(define #t 1)":                noName(1),
		"(define 'x 1)":                noName(1),
		"(define (x . y) 1)":           noName(1),
		"(define car (if))":            noName(1),
		"(define x (if))":              noForm(2),
		"(set! (x) 1)":                 noName(1),
		"(set! 1 1)":                   noName(1),
		"(set! if (if))":               noName(1),
		"(set! x if)":                  noName(2),
		"(set! x ())":                  noForm(2),
	})
}

// TestBindings: what stands for a list of them, or for one, and is none; names twice; a value that uses its own name.
func TestBindings(t *testing.T) {
	givesAll(t, map[string]told{
		"(let x 1)":                     noForm(1),
		"(let 1 1)":                     noForm(1),
		"(let if if)":                   noForm(1),
		"(let #t 1)":                    noForm(1),
		"(let ((x 1) . y) 1)":           noForm(1),
		"(let (x . y) 1)":               noForm(1),
		"(let ((x 1) (x 1) . y) 1)":     noForm(1),
		"(let (x 1) 1)":                 noForm(1, 0),
		"(let (1) 1)":                   noForm(1, 0),
		"(let 'x 1)":                    noForm(1, 0),
		"(let (()) 1)":                  noForm(1, 0),
		"(let ((x 1 2)) 1)":             noForm(1, 0),
		"(let ((1)) 1)":                 noForm(1, 0),
		"(let ((x . 1)) 1)":             noForm(1, 0),
		"(let ((x 1 . 2)) 1)":           noForm(1, 0),
		"(let ((x 1) (y)) 1)":           noForm(1, 1),
		"(let ((x 1) y) 1)":             noForm(1, 1),
		"(let ((x 1) (x)) 1)":           noForm(1, 1),
		"(let ((x 1) (y 1) (x 1 2)) 1)": noForm(1, 2),
		"(let ((1 x)) 1)":               noName(1, 0, 0),
		"(let (((x) x)) 1)":             noName(1, 0, 0),
		"(let ((() x)) 1)":              noName(1, 0, 0),
		"(let ((#f x)) 1)":              noName(1, 0, 0),
		"(let ('x) 1)":                  noName(1, 0, 0),
		"(let ((if if)) 1)":             noName(1, 0, 0),
		"(let ((car 1)) 1)":             noName(1, 0, 0),
		"(let ((x if)) 1)":              noName(1, 0, 1),
		"(let ((x ())) 1)":              noForm(1, 0, 1),
		"(let ((x (define y 1))) 1)":    noForm(1, 0, 1),
		"(let ((x (if)) (x 1)) 1)":      noForm(1, 0, 1),
		"(let ((x 1) (x (if))) 1)":      twice(1, 1, 0),
		"(let ((x 1) (y x) (x 1)) if)":  twice(1, 2, 0),
		"(let ((x 1) (car 1) (x 1)) 1)": noName(1, 1, 0),
		"(let ((x 1) (x 1) (car 1)) 1)": twice(1, 1, 0),
		"(let ((x 1) (y (if))) ())":     noForm(1, 1, 1),
		"(let ((x 1)) ())":              noForm(2),
		"(let ((x 1)) 1 if)":            noName(3),
		"(let ((x 1)) (let ((x x)) x))": fine(let("x", one, let("x", x, x))),
		"(let ((x (let ((x x)) x))) x)": fine(let("x", let("x", x, x), x)),
		"(let ((x (lambda (x) x))) x)":  fine(let("x", lambda("x", x), x)),
		"(let ((x x)) x)":               fine(let("x", x, x)),
		"(let ((x 1) (X 1)) 1)":         fine(let("x X", one, one, one)),
		"(let ((x ''y)) '(if . 1))":     fine(let("x", quote(list(sym("quote"), sym("y"))), quote(dot(sym("if"), num(1))))),
	})
}

// TestDefines: nowhere within another form, but within a quote.
func TestDefines(t *testing.T) {
	givesAll(t, map[string]told{
		"(define x 1)":                   fine(named(api.FormDefine, "x", one)),
		"(define x (define y 1))":        noForm(2),
		"(define x (define y))":          noForm(2),
		"(define x (define))":            noForm(2),
		"(define car (define y 1))":      noName(1),
		"((define x 1))":                 noForm(0),
		"(f (define x 1))":               noForm(1),
		"(if (define x 1) (define y 1))": noForm(1),
		"(lambda () (define x 1) 1)":     noForm(2),
		"(begin 1 (begin (define x 1)))": noForm(2, 1),
		"'(define x 1)":                  fine(quote(list(sym("define"), sym("x"), num(1)))),
		"(begin '(define x 1))":          fine(begin(quote(list(sym("define"), sym("x"), num(1))))),
		"(define x '(define))":           fine(named(api.FormDefine, "x", quote(list(sym("define"))))),
		"(define define 1)":              noName(1),
	})
}

// TestFirstOfTwo: of two faults the first one in the datum's order, a list ahead of its Kids.
func TestFirstOfTwo(t *testing.T) {
	givesAll(t, map[string]told{
		"(if () if)":                                noForm(1),
		"(if if ())":                                noName(1),
		"(if if)":                                   noForm(),
		"(f (if) if)":                               noForm(1),
		"(f if (if))":                               noName(1),
		"((if) if)":                                 noForm(0),
		"((car) . x)":                               noForm(),
		"(car if if)":                               noForm(),
		"(begin (begin (begin) if) if)":             noForm(1, 1),
		"(begin (begin if (begin)) (begin))":        noName(1, 1),
		"(begin x (f y (lambda (z z) (car))))":      twice(2, 2, 1, 1),
		"(begin x (f y (lambda (z) (car))))":        noForm(2, 2, 2),
		"(begin x (f (car) (lambda (z z) 1)))":      noForm(2, 1),
		"(while (let ((x if)) ()) ())":              noName(1, 1, 0, 1),
		"(while (let ((x 1)) () if) ())":            noForm(1, 2),
		"(spawn (lambda (x) (join (unlock lock))))": noName(1, 2, 1, 1),
		"(f '(if) '() 'if if)":                      noName(4),
		"(quote (quote) (quote))":                   noForm(),
		"(lambda (x if) . y)":                       noForm(),
		"(((((if)))))":                              noForm(0, 0, 0, 0),
		"(((((if x y z)) if)))":                     noName(0, 0, 1),
	})
}

// TestWhatCanNotBeWritten: a datum that is none, or too deep, too much, too long, is no form, and has no path, whatever else is wrong.
func TestWhatCanNotBeWritten(t *testing.T) {
	for _, d := range notData() {
		gives(t, d, noForm())
		gives(t, list(sym("if"), sym("if"), d), noForm())
		gives(t, list(sym("quote"), d), noForm())
		gives(t, list(sym("lambda"), list(d), num(1)), noForm())
		gives(t, list(d, num(1)), noForm())
		gives(t, dot(d, num(1)), noForm())
		gives(t, list(sym("set!"), d, num(1)), noForm())
		for _, out := range arounds() {
			gives(t, out.datum(d), noForm())
		}
	}
	for n, want := range map[int]told{98: {}, 99: {}, 100: noForm(), 101: noForm(), 3000: noForm(), 65000: noForm()} {
		d := sym("x")
		for range n {
			d = list(d)
		}
		gives(t, list(sym("if"), d), noForm())
		gives(t, list(sym("f"), sym("if"), d), orElse(want, noName(1)))
		f, e, path := forms.Of(list(sym("quote"), d))
		if e != want.e || len(path) != 0 || !sameForm(f, orElse(want, fine(quote(d))).f) {
			t.Errorf("%d deep: %s, %d, %v", n, short(dump(f)), e, path)
		}
	}
	for n, want := range map[int]told{9997: {}, 9998: {}, 9999: noForm(), 20000: noForm()} {
		l := slices.Repeat([]api.Datum{num(1)}, n)
		gives(t, list(append([]api.Datum{sym("begin")}, l...)...), orElse(want, fine(begin(slices.Repeat([]api.Form{one}, n)...))))
		gives(t, list(append([]api.Datum{sym("if")}, l...)...), noForm())
		gives(t, put(list(append([]api.Datum{sym("begin")}, l...)...), []int{n}, sym("if")), orElse(want, noName(n)))
	}
	long := sym(strings.Repeat("x", 32))
	for n, want := range map[int]told{30: {}, 31: {}, 32: noForm()} { // bytes beyond 65505
		l := append(slices.Repeat([]api.Datum{long}, 1985), sym(strings.Repeat("y", n-4)))
		if text, e := read.Write(list(append(l, num(7))...)); e == api.OK && len(text) != 65505+n {
			t.Fatalf("%d bytes with %d", len(text), n)
		}
		f, e, path := forms.Of(list(append(l, num(7))...))
		if e != want.e || len(path) != 0 || (f.Kind == api.FormCall) != (e == api.OK) {
			t.Errorf("%d: %d, %d, %v", n, f.Kind, e, path)
		}
	}
}

// orElse is what is told; if that is nothing, the other.
func orElse(want, other told) told {
	if want.e != api.OK {
		return want
	}
	return other
}

// notData are data that may not be.
func notData() []api.Datum {
	kid := []api.Datum{sym("x")}
	return []api.Datum{
		{}, {Kind: 6}, {Kind: 255}, {N: 1}, {Text: "x"}, {Kids: kid}, {Dot: true}, num(1 << 59), num(-1<<59 - 1),
		{Kind: api.DatumInt, Text: "x"}, {Kind: api.DatumInt, Kids: kid}, {Kind: api.DatumInt, Dot: true},
		{Kind: api.DatumFalse, N: 1}, {Kind: api.DatumTrue, Text: "x"}, {Kind: api.DatumTrue, Kids: kid}, {Kind: api.DatumFalse, Dot: true},
		{Kind: api.DatumSymbol, Text: "x", N: 1}, {Kind: api.DatumSymbol, Text: "x", Kids: kid}, {Kind: api.DatumSymbol, Text: "x", Dot: true},
		{Kind: api.DatumList, N: 1}, {Kind: api.DatumList, Text: "x"}, {Kind: api.DatumList, Text: "if", Kids: kid},
		sym(""), sym("1x"), sym("7"), sym("a b"), sym("."), sym("#t"), sym("'"), sym("("), sym("λ"), sym(strings.Repeat("x", 33)),
		dot(), dot(sym("x")), dot(sym("x"), list()), dot(sym("x"), list(sym("y"))), list(api.Datum{}),
	}
}
