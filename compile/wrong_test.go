package compile_test

import (
	"slices"
	"strings"
	"testing"

	"dapple/api"
	"dapple/forms"
)

// noForms are forms that forms.Check does not take.
func noForms(t *testing.T) []api.Form {
	t.Helper()
	one, x, a := formOf(t, "1"), formOf(t, "x"), formOf(t, "'a")
	define := formOf(t, "(define x 'a)")
	return []api.Form{
		{},
		{Kind: api.FormYield + 1},
		{Kind: 255, Kids: []api.Form{a}},
		{Kind: api.FormName},
		{Kind: api.FormName, Text: "if"},
		{Kind: api.FormName, Text: "a b"},
		{Kind: api.FormQuote},
		{Kind: api.FormQuote, Datum: api.Datum{Kind: api.DatumInt, N: 1 << 59}},
		{Kind: api.FormQuote, Datum: api.Datum{Kind: api.DatumSymbol, Text: "1a"}},
		{Kind: api.FormQuote, Datum: api.Datum{Kind: api.DatumSymbol, Text: strings.Repeat("a", 33)}},
		{Kind: api.FormQuote, Datum: api.Datum{Kind: api.DatumList, Dot: true, Kids: []api.Datum{{Kind: api.DatumInt}}}},
		{Kind: api.FormIf, Kids: []api.Form{a}},
		{Kind: api.FormIf, Kids: []api.Form{a, one, x, one}},
		{Kind: api.FormLambda},
		{Kind: api.FormLambda, Names: []string{"x", "x"}, Kids: []api.Form{a}},
		{Kind: api.FormLet, Names: []string{"x"}, Kids: []api.Form{a}},
		{Kind: api.FormLet, Names: []string{"x", "car"}, Kids: []api.Form{a, a, a}},
		{Kind: api.FormBegin},
		{Kind: api.FormBegin, Kids: []api.Form{a, define}},
		{Kind: api.FormBegin, Kids: []api.Form{a, {}}},
		{Kind: api.FormWhile},
		{Kind: api.FormCall},
		{Kind: api.FormCall, Kids: []api.Form{{Kind: api.FormName, Text: "cons"}, a}},
		{Kind: api.FormDefine, Text: "x"},
		{Kind: api.FormDefine, Text: "cons", Kids: []api.Form{a}},
		{Kind: api.FormSet, Text: "x", Kids: []api.Form{define}},
		{Kind: api.FormSpawn},
		{Kind: api.FormYield, Kids: []api.Form{a}},
		{Kind: api.FormYield, Text: "x"},
	}
}

// TestNoForms: forms.Check's error, with the form's number; of its symbols the table gets none, of those ahead all.
func TestNoForms(t *testing.T) {
	ahead := formsOf(t, "'q (lambda (x) 'p) y")
	behind := formsOf(t, "'r 1")
	for _, f := range noForms(t) {
		e := forms.Check(f)
		if e == api.OK {
			t.Fatalf("%+v is a form", f)
		}
		refused(t, table(t), e, 0, "", f)
		refused(t, table(t, "m", "p"), e, 0, "m p", f, behind[0])
		refused(t, table(t), e, 3, "q p", append(slices.Clone(ahead), f)...)
		refused(t, table(t, "m", "p"), e, 3, "m p q", slices.Concat(ahead, []api.Form{f}, behind)...)
		for _, g := range noForms(t) {
			refused(t, table(t), e, 1, "q", ahead[0], f, g)
		}
	}
}

// TestFullTable: a symbol that is refused, those ahead of it and behind it.
func TestFullTable(t *testing.T) {
	full := someNames("s", 4096)
	all := strings.Join(full, " ")
	refused(t, table(t, full...), api.ErrNamesMuch, 0, all, formOf(t, "'a"))
	refused(t, table(t, full...), api.ErrNamesMuch, 2, all, formsOf(t, "'s7 a '(s1 . a) 'b")...)
	// What it has can be quoted, and whatever is not quoted needs nothing of it.
	n := table(t, full...)
	if got := listing(n, compiled(t, n, formsOf(t, "'(s7 . s4095) a")...)); got != "'s7 's4095\na\n0: const 0, const 1, prim cons, pop, global 0, return" {
		t.Error(got)
	}
	// With room for two the third one is refused.
	some := strings.Join(full[:4094], " ")
	refused(t, table(t, full[:4094]...), api.ErrNamesMuch, 1, some+" a b", formsOf(t, "'a (lambda () '(a b c a d)) 'b")...)
	refused(t, table(t, full[:4094]...), api.ErrNamesMuch, 0, some+" b a", formsOf(t, "(let ((x '(b))) 'a x 'c 'b)")...)
	n = table(t, full[:4094]...)
	compiled(t, n, formsOf(t, "'(a b a) 's0 'b")...)
	if strings.Join(n.All(), " ") != some+" a b" {
		t.Errorf("%d names", n.Len())
	}
	// Ahead of the one that is refused a table may be filled by the same form.
	refused(t, table(t, full[:4095]...), api.ErrNamesMuch, 0, strings.Join(full[:4095], " ")+" a", formOf(t, "(f 'a 's3 'b)"))
}

// TestWhatTheTableHas: behind an error of what is too much it has all symbols of that form, and those of no form behind.
func TestWhatTheTableHas(t *testing.T) {
	deep := "'(b " + many(300, "1") + "c)"
	refused(t, table(t), api.ErrCompileMuch, 1, "a b c", formsOf(t, "'a "+deep+" 'd")...)
	refused(t, table(t, "z", "c"), api.ErrCompileMuch, 0, "z c b", formsOf(t, deep+" 'd")...)
	refused(t, table(t), api.ErrCompileMuch, 0, "b c d", formsOf(t, "(begin "+deep+" 'd) 'e")...)
	globals := "(begin 'b " + strings.Join(someNames("g", 65), " ") + " 'c)"
	refused(t, table(t), api.ErrCompileGlobal, 1, "a b c", formsOf(t, "'a "+globals+" 'd")...)
	refused(t, table(t), api.ErrCompileMuch, 2048, "a b", formsOf(t, "'a "+many(2047, "1")+"'b 'c")...)
}

// TestFirstOfTwo: of a form's faults the first in the document's order; of two forms' the first form's.
func TestFirstOfTwo(t *testing.T) {
	noForm := func(f api.Form) api.Form {
		return api.Form{Kind: api.FormBegin, Kids: []api.Form{f, {Kind: api.FormBegin}}}
	}
	globals := strings.Join(someNames("g", 65), " ")
	deep := "'(" + many(300, "1") + ")"
	full := someNames("s", 4096)
	has := strings.Join(full, " ")
	faults := []struct {
		e api.Errno
		f api.Form
	}{
		{api.ErrFormsForm, noForm(formOf(t, "(begin 'a "+globals+" "+deep+")"))},
		{api.ErrNamesMuch, formOf(t, "(begin "+deep+" "+globals+" 'a)")},
		{api.ErrCompileGlobal, formOf(t, "(begin "+deep+" "+globals+")")},
		{api.ErrCompileMuch, formOf(t, deep)},
	}
	for _, first := range faults {
		refused(t, table(t, full...), first.e, 0, has, first.f)
		for _, second := range faults {
			refused(t, table(t, full...), first.e, 0, has, first.f, second.f)
			refused(t, table(t, full...), first.e, 2, has, formOf(t, "'s1"), formOf(t, "x"), first.f, second.f)
		}
	}
	// Globals that come to be too many with what stands ahead.
	half := strings.Join(someNames("h", 33), " ")
	refused(t, table(t), api.ErrCompileGlobal, 1, "", formsOf(t, "(begin "+half+") (begin "+strings.Join(someNames("k", 32), " ")+" "+deep+")")...)
	refused(t, table(t), api.ErrCompileMuch, 1, "", formsOf(t, "(begin "+half+") (begin "+strings.Join(someNames("k", 31), " ")+" "+deep+")")...)
}

// TestEmptyAndNil: are the same thing (R6).
func TestEmptyAndNil(t *testing.T) {
	n := table(t)
	want := listing(n, compiled(t, n))
	if got := listing(n, compiled(t, n, []api.Form{}...)); got != want {
		t.Error(got)
	}
	for _, s := range []string{"x", "1", "'()", "'(())", "(yield)", "(lambda () 1)", "(let () 'a)", "(f)"} {
		f := formOf(t, s)
		if got, want := listing(n, compiled(t, n, widened(f))), listing(n, compiled(t, n, f)); got != want {
			t.Errorf("%s: %s, not %s", s, got, want)
		}
	}
}

// widened is a form of which lists that are nil are empty instead.
func widened(f api.Form) api.Form {
	f.Names = slices.Concat([]string{}, f.Names, []string{})
	f.Kids = append([]api.Form{}, f.Kids...)
	for i := range f.Kids {
		f.Kids[i] = widened(f.Kids[i])
	}
	f.Datum = widenedDatum(f.Datum)
	return f
}

func widenedDatum(d api.Datum) api.Datum {
	d.Kids = append([]api.Datum{}, d.Kids...)
	for i := range d.Kids {
		d.Kids[i] = widenedDatum(d.Kids[i])
	}
	return d
}
