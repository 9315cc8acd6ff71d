package forms_test

import (
	"slices"
	"strings"
	"testing"

	"dapple/api"
	"dapple/forms"
	"dapple/read"
)

func num(n int64) api.Datum { return api.Datum{Kind: api.DatumInt, N: n} }

func sym(text string) api.Datum { return api.Datum{Kind: api.DatumSymbol, Text: text} }

func list(kids ...api.Datum) api.Datum { return api.Datum{Kind: api.DatumList, Kids: kids} }

func dot(kids ...api.Datum) api.Datum {
	return api.Datum{Kind: api.DatumList, Kids: kids, Dot: true}
}

var no, yes = api.Datum{Kind: api.DatumFalse}, api.Datum{Kind: api.DatumTrue}

// term is a form that has nothing but Kids.
func term(kind api.FormKind, kids ...api.Form) api.Form { return api.Form{Kind: kind, Kids: kids} }

func quote(d api.Datum) api.Form { return api.Form{Kind: api.FormQuote, Datum: d} }

func name(text string) api.Form { return api.Form{Kind: api.FormName, Text: text} }

func call(kids ...api.Form) api.Form { return term(api.FormCall, kids...) }

func begin(kids ...api.Form) api.Form { return term(api.FormBegin, kids...) }

// named is a define or a set.
func named(kind api.FormKind, text string, kids ...api.Form) api.Form {
	return api.Form{Kind: kind, Text: text, Kids: kids}
}

// binds is a lambda or a let; its names stand in one text.
func binds(kind api.FormKind, names string, kids ...api.Form) api.Form {
	return api.Form{Kind: kind, Names: strings.Fields(names), Kids: kids}
}

func lambda(names string, kids ...api.Form) api.Form { return binds(api.FormLambda, names, kids...) }

func let(names string, kids ...api.Form) api.Form { return binds(api.FormLet, names, kids...) }

var x, y, z, one = name("x"), name("y"), name("z"), quote(num(1))

// keywords are those of the chapter.
func keywords() []string {
	return strings.Fields("quote if lambda define set! begin let while spawn join lock unlock yield")
}

// primitives are those of the chapter, by their numbers from 1 on, and how many arguments each takes.
func primitives() ([]string, []int) {
	names := strings.Fields("cons car cdr set-car! set-cdr! box unbox set-box! cas add eq? null? pair? int? + - * quotient remainder < not error")
	return names, []int{2, 1, 1, 2, 2, 1, 1, 2, 3, 2, 2, 1, 1, 1, 2, 2, 2, 2, 2, 2, 1, 1}
}

// datum is the one of a source.
func datum(t testing.TB, s string) api.Datum {
	t.Helper()
	l, e, at := read.Read(s)
	if e != api.OK || len(l) != 1 {
		t.Fatalf("%s: %d data, error %d at %d", short(s), len(l), e, at)
	}
	return l[0]
}

// told is what Of answers.
type told struct {
	f    api.Form
	e    api.Errno
	path []int
}

func fine(f api.Form) told { return told{f: f} }

func wrong(e api.Errno, path ...int) told { return told{e: e, path: path} }

func noForm(path ...int) told { return wrong(api.ErrFormsForm, path...) }

func noName(path ...int) told { return wrong(api.ErrFormsName, path...) }

func twice(path ...int) told { return wrong(api.ErrFormsTwice, path...) }

// gives holds Of of a datum against what it must answer, and a form that comes out against Check and Back.
func gives(t *testing.T, d api.Datum, want told) {
	t.Helper()
	f, e, path := forms.Of(d)
	if !sameForm(f, want.f) || e != want.e || !slices.Equal(path, want.path) {
		t.Errorf("Of of %s: %s, %d, %v; not %s, %d, %v", short(textOf(d)), short(dump(f)), e, path, short(dump(want.f)), want.e, want.path)
	}
	if e == api.OK && forms.Check(f) != api.OK {
		t.Errorf("Check of %s: %d", short(dump(f)), forms.Check(f))
	}
}

// givesAll holds Of of sources against what it must answer.
func givesAll(t *testing.T, all map[string]told) {
	t.Helper()
	for s, want := range all {
		gives(t, datum(t, s), want)
	}
}

// refused holds Check, Back and Names of a form against an error.
func refused(t *testing.T, f api.Form, want api.Errno) {
	t.Helper()
	d, back := forms.Back(f)
	if e, names := forms.Check(f), forms.Names(f); e != want || back != want || len(names) != 0 || !read.Same(d, api.Datum{}) {
		t.Errorf("%s: Check %d, Back %d, %s, Names %q; not %d", short(dump(f)), e, back, short(textOf(d)), names, want)
	}
}

// taken holds Check and Back of a form against its datum, and Of of that against the form.
func taken(t *testing.T, f api.Form, want api.Datum) {
	t.Helper()
	d, back := forms.Back(f)
	if e := forms.Check(f); e != api.OK || back != api.OK || !read.Same(d, want) {
		t.Errorf("%s: Check %d, Back %d, %s; not %s", short(dump(f)), e, back, short(textOf(d)), short(textOf(want)))
	}
	if g, e, path := forms.Of(d); e != api.OK || len(path) != 0 || !sameForm(f, g) {
		t.Errorf("Of of %s: %s, %d, %v; not %s", short(textOf(d)), short(dump(g)), e, path, short(dump(f)))
	}
}

// uses holds Names of a form against some, which stand in one text.
func uses(t *testing.T, f api.Form, want string) {
	t.Helper()
	if l := forms.Names(f); !slices.Equal(l, strings.Fields(want)) {
		t.Errorf("Names of %s: %q, not %q", short(dump(f)), l, want)
	}
}

func TestExamples(t *testing.T) {
	givesAll(t, map[string]told{
		"(lambda (x) (+ x y))":     fine(lambda("x", call(name("+"), x, y))),
		"(let ((x y) (y x)) x)":    fine(let("x y", y, x, x)),
		"(lambda (x x) 1)":         twice(1, 1),
		"(if 1)":                   noForm(),
		"(set! car 1)":             noName(1),
		"(begin (define x 1))":     noForm(1),
		"(car 1 2)":                noForm(),
		"()":                       noForm(),
		"(f if)":                   noName(1),
		"if":                       noName(),
		"(let (x) 1)":              noForm(1, 0),
		"(let ((x)) 1)":            noForm(1, 0),
		"(lambda x 1)":             noForm(1),
		"(quote (a . b))":          fine(quote(dot(sym("a"), sym("b")))),
		"(quote 5)":                fine(quote(num(5))),
		"(let ((x 1) (x 2)) 1)":    twice(1, 1, 0),
		"(f . x)":                  noForm(),
		"(define x (lambda () 1))": fine(named(api.FormDefine, "x", lambda("", one))),
	})
	uses(t, lambda("x", call(name("+"), x, y)), "y")
	uses(t, let("x y", y, x, x), "y x")
	taken(t, quote(dot(sym("a"), sym("b"))), list(sym("quote"), dot(sym("a"), sym("b"))))
	taken(t, quote(num(5)), num(5))
	if p, n, ok := forms.Prim("cas"); p != 9 || n != 3 || !ok {
		t.Errorf("cas: %d, %d, %t", p, n, ok)
	}
}

func TestNumbersOfErrors(t *testing.T) {
	if api.ErrFormsForm != 70 || api.ErrFormsName != 71 || api.ErrFormsTwice != 72 {
		t.Error(api.ErrFormsForm, api.ErrFormsName, api.ErrFormsTwice)
	}
}

func TestPrim(t *testing.T) {
	names, args := primitives()
	for i, s := range names {
		if p, n, ok := forms.Prim(s); p != api.Prim(i+1) || n != args[i] || !ok {
			t.Errorf("%s: %d, %d, %t", s, p, n, ok)
		}
	}
	if len(names) != int(api.PrimError) {
		t.Errorf("%d primitives", len(names))
	}
	none := append(keywords(), "", " ", "x", "Cons", "cons ", "con", "conss", "c", "a b", "(", "set-car", "eq", "?", "++", "=", ">", "primitive", "7", strings.Repeat("x", 100))
	for _, s := range none {
		if p, n, ok := forms.Prim(s); p != 0 || n != 0 || ok {
			t.Errorf("%q: %d, %d, %t", s, p, n, ok)
		}
	}
}

// row is a row of the chapter's table: a form and how it is written.
type row struct {
	s string
	f api.Form
}

// rows are such of every row, with as few Kids as it takes, and with more.
func rows() []row {
	d := sym("d")
	return []row{
		{"7", quote(num(7))},
		{"-576460752303423488", quote(num(-1 << 59))},
		{"576460752303423487", quote(num(1<<59 - 1))},
		{"0", quote(num(0))},
		{"#f", quote(no)},
		{"#t", quote(yes)},
		{"'d", quote(d)},
		{"'()", quote(list())},
		{"'(d . 1)", quote(dot(d, num(1)))},
		{"'(if () (define) . #f)", quote(dot(sym("if"), list(), list(sym("define")), no))},
		{"'if", quote(sym("if"))},
		{"'car", quote(sym("car"))},
		{"''d", quote(list(sym("quote"), d))},
		{"''7", quote(list(sym("quote"), num(7)))},
		{"'(7)", quote(list(num(7)))},
		{"x", x},
		{"car", name("car")},
		{"Quote", name("Quote")},
		{"...", name("...")},
		{"zzzzzzzzzzzzzzzzzzzzzzzzzzzzzzzz", name("zzzzzzzzzzzzzzzzzzzzzzzzzzzzzzzz")},
		{"(if x y)", term(api.FormIf, x, y)},
		{"(if x y z)", term(api.FormIf, x, y, z)},
		{"(lambda () 1)", lambda("", one)},
		{"(lambda (x) y)", lambda("x", y)},
		{"(lambda (x y z) 1 x y)", lambda("x y z", one, x, y)},
		{"(lambda (Car IF) 1)", lambda("Car IF", one)},
		{"(define x 1)", named(api.FormDefine, "x", one)},
		{"(define x x)", named(api.FormDefine, "x", x)},
		{"(set! x 1)", named(api.FormSet, "x", one)},
		{"(set! x (set! y z))", named(api.FormSet, "x", named(api.FormSet, "y", z))},
		{"(begin x)", begin(x)},
		{"(begin 1 x y z)", begin(one, x, y, z)},
		{"(let () 1)", let("", one)},
		{"(let () x y)", let("", x, y)},
		{"(let ((x y)) z)", let("x", y, z)},
		{"(let ((x x)) x)", let("x", x, x)},
		{"(let ((x 1) (y x) (z 1)) x y z)", let("x y z", one, x, one, x, y, z)},
		{"(while x)", term(api.FormWhile, x)},
		{"(while x y)", term(api.FormWhile, x, y)},
		{"(while #t 1 x y z)", term(api.FormWhile, quote(yes), one, x, y, z)},
		{"(spawn x)", term(api.FormSpawn, x)},
		{"(join x)", term(api.FormJoin, x)},
		{"(lock x)", term(api.FormLock, x)},
		{"(unlock x)", term(api.FormUnlock, x)},
		{"(yield)", term(api.FormYield)},
		{"(x)", call(x)},
		{"(x y z 1)", call(x, y, z, one)},
		{"(1)", call(one)},
		{"(#f #t)", call(quote(no), quote(yes))},
		{"('car 1 2 x)", call(quote(sym("car")), one, quote(num(2)), x)},
		{"((x))", call(call(x))},
		{"((lambda (x) x) car)", call(lambda("x", x), name("car"))},
		{"((if x car cdr) x y z)", call(term(api.FormIf, x, name("car"), name("cdr")), x, y, z)},
		{"((yield) (yield))", call(term(api.FormYield), term(api.FormYield))},
		{"(car x)", call(name("car"), x)},
		{"(x car)", call(x, name("car"))},
		{"(cons car cdr)", call(name("cons"), name("car"), name("cdr"))},
	}
}

// TestRows: each row of the table, there and back, by itself and within each form that has Kids.
func TestRows(t *testing.T) {
	for _, r := range rows() {
		d := datum(t, r.s)
		gives(t, d, fine(r.f))
		taken(t, r.f, d)
		for _, out := range arounds() {
			if r.f.Kind == api.FormDefine {
				gives(t, out.datum(d), noForm(out.path...))
				refused(t, out.form(r.f), api.ErrFormsForm)
				continue
			}
			gives(t, out.datum(d), fine(out.form(r.f)))
			taken(t, out.form(r.f), out.datum(d))
		}
	}
}

// TestQuotedThings: of a number, #f, #t that is quoted the quote is not seen any more.
func TestQuotedThings(t *testing.T) {
	for s, f := range map[string]api.Form{"'7": quote(num(7)), "'-7": quote(num(-7)), "'#f": quote(no), "'#t": quote(yes)} {
		gives(t, datum(t, s), fine(f))
		taken(t, f, f.Datum)
	}
}

// around is a form with a hole in it.
type around struct {
	path  []int
	datum func(api.Datum) api.Datum
	form  func(api.Form) api.Form
}

// arounds are those for every place of a form within another one.
func arounds() []around {
	k := func(s string, behind ...api.Datum) []api.Datum { return append([]api.Datum{sym(s)}, behind...) }
	u, v := sym("x"), num(1)
	pairs := list(list(u, v), list(sym("y"), v))
	with := func(path []int, l []api.Datum, f api.Form, at int) around {
		return around{path,
			func(d api.Datum) api.Datum { return put(list(l...), path, d) },
			func(kid api.Form) api.Form {
				g := f
				g.Kids = slices.Clone(f.Kids)
				g.Kids[at] = kid
				return g
			}}
	}
	return []around{
		with([]int{1}, k("if", v, u), term(api.FormIf, one, x), 0),
		with([]int{2}, k("if", v, u), term(api.FormIf, one, x), 1),
		with([]int{3}, k("if", v, u, u), term(api.FormIf, one, x, x), 2),
		with([]int{2}, k("lambda", list(u), v), lambda("x", one), 0),
		with([]int{3}, k("lambda", list(u), v, v, v), lambda("x", one, one, one), 1),
		with([]int{2}, k("define", u, v), named(api.FormDefine, "x", one), 0),
		with([]int{2}, k("set!", u, v), named(api.FormSet, "x", one), 0),
		with([]int{1}, k("begin", v), begin(one), 0),
		with([]int{2}, k("begin", v, v), begin(one, one), 1),
		with([]int{1, 0, 1}, k("let", pairs, v, v), let("x y", one, one, one, one), 0),
		with([]int{1, 1, 1}, k("let", pairs, v, v), let("x y", one, one, one, one), 1),
		with([]int{2}, k("let", pairs, v, v), let("x y", one, one, one, one), 2),
		with([]int{3}, k("let", pairs, v, v), let("x y", one, one, one, one), 3),
		with([]int{1}, k("while", v, u), term(api.FormWhile, one, x), 0),
		with([]int{2}, k("while", v, u), term(api.FormWhile, one, x), 1),
		with([]int{1}, k("spawn", v), term(api.FormSpawn, one), 0),
		with([]int{1}, k("join", v), term(api.FormJoin, one), 0),
		with([]int{1}, k("lock", v), term(api.FormLock, one), 0),
		with([]int{1}, k("unlock", v), term(api.FormUnlock, one), 0),
		with([]int{1}, k("car", v), call(name("car"), one), 1),
		with([]int{3}, k("cas", v, v, v), call(name("cas"), one, one, one), 3),
		with([]int{1}, k("x", v), call(x, one), 1),
		with([]int{2}, k("x", v, v), call(x, one, one), 2),
	}
}

// put is a datum with another one at a path.
func put(d api.Datum, path []int, other api.Datum) api.Datum {
	if len(path) == 0 {
		return other
	}
	d.Kids = slices.Clone(d.Kids)
	d.Kids[path[0]] = put(d.Kids[path[0]], path[1:], other)
	return d
}

// TestHeads: what may be called, a define and a keyword's list in its place.
func TestHeads(t *testing.T) {
	for _, r := range rows() {
		d := datum(t, r.s)
		if r.f.Kind == api.FormDefine {
			gives(t, list(d), noForm(0))
			gives(t, list(d, num(1)), noForm(0))
			refused(t, call(r.f, one), api.ErrFormsForm)
			continue
		}
		if _, n, ok := forms.Prim(r.s); ok && n != 1 {
			t.Fatalf("%s takes %d", r.s, n)
		}
		gives(t, list(d, num(1)), fine(call(r.f, one)))
		taken(t, call(r.f, one), list(d, num(1)))
	}
}

// TestHowManyKids: each row with one Kid less and one more than it takes.
func TestHowManyKids(t *testing.T) {
	for _, s := range []string{
		"()", "(quote)", "(quote x y)", "(quote 1 2 3)", "(if)", "(if x)", "(if x y z x)", "(if x y z x y)",
		"(lambda)", "(lambda ())", "(lambda (x))", "(lambda x)", "(define)", "(define x)", "(define x y z)", "(set!)", "(set! x)", "(set! x y z)",
		"(begin)", "(let)", "(let ())", "(let ((x 1)))", "(let x)", "(while)", "(yield x)", "(yield x y)",
		"(spawn)", "(spawn x y)", "(join)", "(join x y)", "(lock)", "(lock x y)", "(unlock)", "(unlock x y)",
	} {
		d := datum(t, s)
		gives(t, d, noForm())
		gives(t, list(d), noForm(0))
		for _, out := range arounds() {
			gives(t, out.datum(d), noForm(out.path...))
		}
		// What else is wrong with it stands behind it.
		for i := 1; i < len(d.Kids); i++ {
			gives(t, put(d, []int{i}, sym("if")), noForm())
			gives(t, put(d, []int{i}, list()), noForm())
		}
	}
}
