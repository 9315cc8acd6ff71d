package forms_test

import (
	"slices"
	"strconv"
	"strings"
	"testing"

	"dapple/api"
	"dapple/forms"
	"dapple/read"
)

// TestKinds: those that are none.
func TestKinds(t *testing.T) {
	for _, kind := range []api.FormKind{0, api.FormYield + 1, 100, 255} {
		for _, f := range []api.Form{{Kind: kind}, name("x"), quote(num(1)), call(x), let("x", one, one), named(api.FormDefine, "x", one)} {
			f.Kind = kind
			refused(t, f, api.ErrFormsForm)
			refused(t, begin(f), api.ErrFormsForm)
			refused(t, call(f, x), api.ErrFormsForm)
			refused(t, deepInside(f), api.ErrFormsForm)
		}
	}
	refused(t, api.Form{}, api.ErrFormsForm)
}

// deepInside is a deep form with another one at its end.
func deepInside(f api.Form) api.Form {
	return lambda("x", term(api.FormIf, x, term(api.FormWhile, x, term(api.FormSpawn, let("y", f, y)))))
}

// kidsOf are how many Kids a kind of form takes at least and at most, beside a let's values.
func kidsOf(kind api.FormKind) (int, int) {
	const many = 1000
	switch kind {
	case api.FormQuote, api.FormName, api.FormYield:
		return 0, 0
	case api.FormIf:
		return 2, 3
	case api.FormLambda, api.FormBegin, api.FormLet, api.FormWhile, api.FormCall:
		return 1, many
	default:
		return 1, 1
	}
}

// bare is a form of a kind, with a text, names, a datum as these must be, and without Kids.
func bare(kind api.FormKind, names string) api.Form {
	f := api.Form{Kind: kind}
	switch kind {
	case api.FormQuote:
		f.Datum = sym("d")
	case api.FormName, api.FormDefine, api.FormSet:
		f.Text = "x"
	case api.FormLambda, api.FormLet:
		f.Names = strings.Fields(names)
	}
	return f
}

// TestHowManyKidsOfForms: every kind with none to eight, with names and without.
func TestHowManyKidsOfForms(t *testing.T) {
	for kind := api.FormQuote; kind <= api.FormYield; kind++ {
		for _, names := range []string{"", "x", "x y z"} {
			least, most := kidsOf(kind)
			if kind == api.FormLet {
				least += len(strings.Fields(names))
			}
			for n := range 9 {
				f := bare(kind, names)
				f.Kids = slices.Repeat([]api.Form{one}, n)
				if n < least || n > most {
					refused(t, f, api.ErrFormsForm)
					refused(t, begin(x, f), api.ErrFormsForm)
					continue
				}
				if e := forms.Check(f); e != api.OK {
					t.Errorf("%s: %d", dump(f), e)
				}
				d, e := forms.Back(f)
				if e != api.OK {
					t.Errorf("%s: Back %d", dump(f), e)
				}
				gives(t, d, fine(f))
			}
		}
	}
}

// TestWhatMustBeEmpty: a text, names, Kids, a datum (each of its fields) of each kind that has none.
func TestWhatMustBeEmpty(t *testing.T) {
	changes := []struct {
		has    []api.FormKind
		change func(*api.Form)
	}{
		{[]api.FormKind{api.FormName, api.FormDefine, api.FormSet}, func(f *api.Form) { f.Text = "y" }},
		{[]api.FormKind{api.FormLambda}, func(f *api.Form) { f.Names = []string{"y"} }},
		{[]api.FormKind{api.FormQuote}, func(f *api.Form) { f.Datum = num(7) }},
		{[]api.FormKind{api.FormQuote}, func(f *api.Form) { f.Datum = no }},
		{[]api.FormKind{api.FormQuote}, func(f *api.Form) { f.Datum = list() }},
		{nil, func(f *api.Form) { f.Datum.N = 1 }},
		{nil, func(f *api.Form) { f.Datum.Kids = []api.Datum{num(1)} }},
		{nil, func(f *api.Form) { f.Datum.Dot = true }},
		{nil, func(f *api.Form) { f.Datum.Text = "1" }},
		{nil, func(f *api.Form) { f.Datum.Kind = 77 }},
	}
	for kind := api.FormQuote; kind <= api.FormYield; kind++ {
		least, _ := kidsOf(kind)
		for i, c := range changes {
			f := bare(kind, "")
			f.Kids = slices.Repeat([]api.Form{x}, least)
			if e := forms.Check(f); e != api.OK {
				t.Fatalf("%s: %d", dump(f), e)
			}
			c.change(&f)
			if slices.Contains(c.has, kind) {
				if e := forms.Check(f); e != api.OK {
					t.Errorf("kind %d, change %d: %d", kind, i, e)
				}
				continue
			}
			refused(t, f, api.ErrFormsForm)
			refused(t, call(x, f), api.ErrFormsForm)
		}
	}
}

// TestEmptyAndNil: are the same thing (R6).
func TestEmptyAndNil(t *testing.T) {
	noNames, noKids, noData := []string{}, []api.Form{}, []api.Datum{}
	for _, f := range []api.Form{x, one, quote(list()), quote(sym("d")), term(api.FormYield), lambda("", one), let("", one), call(x), begin(x), named(api.FormSet, "x", one), quote(list(list()))} {
		g := f
		if len(g.Names) == 0 {
			g.Names = noNames
		}
		if len(g.Kids) == 0 {
			g.Kids = noKids
		}
		if len(g.Datum.Kids) == 0 {
			g.Datum.Kids = noData
		}
		d, e := forms.Back(f)
		if e != api.OK {
			t.Fatalf("%s: %d", dump(f), e)
		}
		taken(t, f, d)
		taken(t, g, d)
		uses(t, g, strings.Join(forms.Names(f), " "))
	}
	gives(t, api.Datum{Kind: api.DatumInt, N: 1, Kids: noData}, fine(one))
	gives(t, api.Datum{Kind: api.DatumSymbol, Text: "x", Kids: noData}, fine(x))
	gives(t, api.Datum{Kind: api.DatumList, Kids: noData}, noForm())
}

// TestNamesThatAreNone: in each place of a form.
func TestNamesThatAreNone(t *testing.T) {
	prims, _ := primitives()
	none := []string{"", " ", "1", "-7", "1x", ".", "#t", "#f", "#", "a b", "a\n", "(", ")", "'", "'a", "a;b", "\"", "\x00", "λ", strings.Repeat("x", 33), strings.Repeat("x", 100000)}
	for _, s := range slices.Concat(none, keywords(), prims) {
		if !slices.Contains(prims, s) {
			refused(t, name(s), api.ErrFormsName)
			refused(t, call(name(s), one), api.ErrFormsName)
			refused(t, begin(x, name(s), api.Form{}), api.ErrFormsName)
		}
		refused(t, named(api.FormDefine, s, one), api.ErrFormsName)
		refused(t, named(api.FormSet, s, one), api.ErrFormsName)
		for _, names := range [][]string{{s}, {"x", s}, {s, "x"}, {"x", "x", s}, {s, s}, {"x", s, "x"}} {
			refused(t, api.Form{Kind: api.FormLambda, Names: names, Kids: []api.Form{one}}, api.ErrFormsName)
			kids := slices.Repeat([]api.Form{one}, len(names)+1)
			refused(t, api.Form{Kind: api.FormLet, Names: names, Kids: kids}, api.ErrFormsName)
			// One of its form's own faults goes first.
			refused(t, api.Form{Kind: api.FormLet, Names: names, Kids: kids[1:]}, api.ErrFormsForm)
			refused(t, api.Form{Kind: api.FormLambda, Names: names}, api.ErrFormsForm)
			refused(t, api.Form{Kind: api.FormBegin, Names: names, Kids: kids}, api.ErrFormsForm)
		}
	}
	for _, s := range []string{"x", "...", "+1", "->", "IF", "Car", "set", "quote-it", strings.Repeat("x", 32)} {
		taken(t, name(s), sym(s))
		taken(t, lambda(s, one), list(sym("lambda"), list(sym(s)), num(1)))
		taken(t, let(s, one, one), list(sym("let"), list(list(sym(s), num(1))), num(1)))
		taken(t, named(api.FormSet, s, one), list(sym("set!"), sym(s), num(1)))
	}
}

func TestNamesTwice(t *testing.T) {
	for _, names := range []string{"x x", "x y x", "y x x", "x y z y", "x y y x"} {
		refused(t, lambda(names, one), api.ErrFormsTwice)
		refused(t, let(names, slices.Repeat([]api.Form{one}, 9)...), api.ErrFormsTwice)
		refused(t, lambda(names, name("if")), api.ErrFormsTwice)
		refused(t, lambda(names, api.Form{}), api.ErrFormsTwice)
		refused(t, begin(lambda("x", lambda(names, one)), name("if")), api.ErrFormsTwice)
	}
	taken(t, lambda("x", lambda("x", let("x", x, x))), datum(t, "(lambda (x) (lambda (x) (let ((x x)) x)))"))
}

// TestFirstTerm: of several faults the one of the first term; of one term's the first of the three.
func TestFirstTerm(t *testing.T) {
	bad, badName, badTwice := begin(), name("if"), lambda("x x", one)
	faults := []struct {
		f api.Form
		e api.Errno
	}{{bad, api.ErrFormsForm}, {badName, api.ErrFormsName}, {badTwice, api.ErrFormsTwice}}
	for _, first := range faults {
		for _, second := range faults {
			refused(t, begin(first.f, second.f), first.e)
			refused(t, begin(call(x, first.f), second.f), first.e)
			refused(t, begin(first.f, call(x, second.f)), first.e)
			refused(t, let("x", first.f, second.f), first.e)
			refused(t, let("x y", x, first.f, second.f), first.e)
			refused(t, call(call(first.f), second.f), first.e)
			refused(t, lambda("x", lambda("y", first.f), second.f), first.e)
		}
		refused(t, lambda("x x", first.f), api.ErrFormsTwice)
		refused(t, lambda("x x if", first.f), api.ErrFormsName)
		refused(t, api.Form{Kind: api.FormLambda, Names: []string{"x", "x", "if"}, Kids: []api.Form{first.f}, Text: "x"}, api.ErrFormsForm)
		refused(t, named(api.FormSet, "car", first.f), api.ErrFormsName)
		refused(t, named(api.FormDefine, "", first.f), api.ErrFormsName)
		refused(t, call(name("cons"), first.f), api.ErrFormsForm)
		refused(t, begin(named(api.FormDefine, "if", first.f)), api.ErrFormsForm)
	}
	refused(t, call(name("if"), bad), api.ErrFormsName)
	refused(t, call(api.Form{Kind: api.FormName, Text: "car", Kids: []api.Form{x}}, x), api.ErrFormsForm)
	refused(t, call(api.Form{Kind: api.FormSet, Text: "car", Kids: []api.Form{x}}, x, x), api.ErrFormsName)
	refused(t, call(x, named(api.FormDefine, "x", one)), api.ErrFormsForm)
}

// TestQuotedData: those that are none, or can't be written by themselves, are told of at their own term.
func TestQuotedData(t *testing.T) {
	deepOne, many := list(), slices.Repeat([]api.Datum{num(1)}, 9999)
	for range 99 {
		deepOne = list(deepOne)
	}
	long := append(slices.Repeat([]api.Datum{sym(strings.Repeat("x", 32))}, 1985), sym(strings.Repeat("y", 29)))
	none := append(notData(), list(deepOne), list(append(many, num(1))...), list(append(long, num(1))...))
	for _, d := range none {
		refused(t, quote(d), api.ErrFormsForm)
		refused(t, begin(quote(d), name("if")), api.ErrFormsForm)
		refused(t, begin(name("if"), quote(d)), api.ErrFormsName)
		refused(t, lambda("x x", quote(d)), api.ErrFormsTwice)
		refused(t, call(quote(d)), api.ErrFormsForm)
	}
	// By itself each of these can be written, but not with its quote: that is told when all terms are looked at.
	for _, d := range []api.Datum{deepOne, list(many...), list(long[:1986]...)} {
		if _, e := read.Write(d); e != api.OK {
			t.Fatalf("Write: %d", e)
		}
		refused(t, begin(quote(d), name("if")), api.ErrFormsName)
		refused(t, begin(quote(d), lambda("x x", x)), api.ErrFormsTwice)
		refused(t, quote(d), api.ErrFormsForm)
		refused(t, begin(quote(d), x), api.ErrFormsForm)
	}
}

// TestHowMuch: forms of which the datum is at the edge of what can be written, and beyond it.
func TestHowMuch(t *testing.T) {
	for n := 97; n <= 103; n++ {
		f, g, h := x, x, one
		for range n {
			f, g = begin(f), call(g)
		}
		for range n / 3 { // a binding is three lists deep
			h = let("x", h, x)
		}
		for _, deepOne := range []api.Form{f, g, lambda("", f.Kids[0]), call(x, g.Kids[0]), begin(x, f.Kids[0]), term(api.FormIf, x, g.Kids[0])} {
			edge(t, deepOne, n <= 100)
			edge(t, begin(name("car"), deepOne), n <= 99)
			refused(t, begin(deepOne, name("if")), api.ErrFormsName)
		}
		edge(t, h, 3*(n/3) <= 100)
	}
	for n := 9996; n <= 10002; n++ { // a list, its keyword, n
		edge(t, begin(slices.Repeat([]api.Form{one}, n-2)...), n <= 10000)
		edge(t, call(slices.Repeat([]api.Form{x}, n-1)...), n <= 10000)
		refused(t, begin(append(slices.Repeat([]api.Form{one}, n-2), name("if"))...), api.ErrFormsName)
	}
	for n := 30; n <= 33; n++ { // bytes beyond 65505
		long := name(strings.Repeat("x", 32))
		edge(t, call(append(slices.Repeat([]api.Form{long}, 1985), name(strings.Repeat("y", n-4)), one)...), n <= 31)
		edge(t, call(append(slices.Repeat([]api.Form{long}, 1985), name(strings.Repeat("y", n-5)), quote(sym("a")))...), n <= 31)
	}
	deepest := begin(x)
	for range 65000 {
		deepest = begin(deepest)
	}
	refused(t, deepest, api.ErrFormsForm)
	deepest = name("if")
	for range 65000 {
		deepest = begin(deepest)
	}
	refused(t, deepest, api.ErrFormsName)
}

// TestManyNames: more than can be written are looked at all the same.
func TestManyNames(t *testing.T) {
	var names []string
	for i := range 100000 {
		names = append(names, "x"+strconv.Itoa(i))
	}
	for _, c := range []struct {
		more []string
		e    api.Errno
	}{{nil, api.ErrFormsForm}, {[]string{"x7"}, api.ErrFormsTwice}, {[]string{"x7", "car"}, api.ErrFormsName}} {
		l := slices.Concat(names, c.more)
		refused(t, api.Form{Kind: api.FormLambda, Names: l, Kids: []api.Form{x}}, c.e)
		refused(t, api.Form{Kind: api.FormLet, Names: l, Kids: slices.Repeat([]api.Form{x}, len(l)+1)}, c.e)
	}
}

// edge holds a form that is taken, if its datum is not too much, against Check, and against its datum.
func edge(t *testing.T, f api.Form, isTaken bool) {
	t.Helper()
	if !isTaken {
		refused(t, f, api.ErrFormsForm)
		return
	}
	taken(t, f, plainBack(f))
}

// TestNames: what is used, in its order, each once.
func TestNames(t *testing.T) {
	for s, want := range map[string]string{
		"1": "", "#f": "", "'x": "", "'(x y)": "", "x": "x", "car": "", "(yield)": "",
		"(x y x z y)":                        "x y z",
		"(cons x (car y))":                   "x y",
		"(if z y x)":                         "z y x",
		"(begin x (begin y) x z)":            "x y z",
		"(while x y z)":                      "x y z",
		"(spawn x)":                          "x",
		"(join x)":                           "x",
		"(lock x)":                           "x",
		"(unlock x)":                         "x",
		"(define x 1)":                       "x",
		"(define x y)":                       "x y",
		"(define x x)":                       "x",
		"(define x (lambda (y) (x y z)))":    "x z",
		"(set! x y)":                         "x y",
		"(set! x (set! y z))":                "x y z",
		"(lambda (x) (set! x y))":            "y",
		"(lambda (x) (set! y x))":            "y",
		"(lambda () x)":                      "x",
		"(lambda (x y) x y z)":               "z",
		"(lambda (x) y)":                     "y",
		"((lambda (x) x) x)":                 "x",
		"(x (lambda (x) x))":                 "x",
		"((lambda (x) x y) y x)":             "y x",
		"(lambda (x) (lambda (y) x y z))":    "z",
		"(lambda (x) (lambda (x) x) x)":      "",
		"(begin (lambda (x) x) x)":           "x",
		"(let ((x x)) x)":                    "x",
		"(let ((x 1)) x)":                    "",
		"(let ((x y) (y x)) x)":              "y x",
		"(let ((x 1) (y x)) y)":              "x",
		"(let ((x z)) y x)":                  "z y",
		"(let ((x 1)) (let ((y x)) x y z))":  "z",
		"(let ((x (let ((y x)) y))) y x)":    "x y",
		"(let ((x 1)) (let ((x x)) x) x)":    "",
		"(lambda (x) (let ((x x)) x))":       "",
		"(lambda (x) (let ((y y)) x))":       "y",
		"(let ((x (lambda (x) x))) x)":       "",
		"(begin (let ((x 1)) x) x)":          "x",
		"(begin x (let ((x 1)) x))":          "x",
		"(let ((x 1)) (set! x (set! y x)))":  "y",
		"(lambda (a) (if a b 'c) (d))":       "b d",
		"(let () x)":                         "x",
		"(+ - (* a b))":                      "a b",
		"(f - (cons a car))":                 "f a",
		"(lambda (x) (begin (lambda () x)))": "",
	} {
		f, e, path := forms.Of(datum(t, s))
		if e != api.OK {
			t.Errorf("%s: %d at %v", s, e, path)
		}
		uses(t, f, want)
	}
	refused(t, begin(x, name("if")), api.ErrFormsName)
	refused(t, begin(x, y, begin()), api.ErrFormsForm)
}
