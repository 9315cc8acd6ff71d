package forms_test

import (
	"math/rand"
	"slices"
	"testing"

	"dapple/api"
	"dapple/forms"
	"dapple/read"
)

// unquoted is a datum in which a number, #f, #t that is quoted as a form stands without its quote; what is quoted stays.
func unquoted(d api.Datum) api.Datum {
	if d.Kind != api.DatumList {
		return d
	}
	if d.Kids[0].Text == "quote" {
		if k := d.Kids[1].Kind; k == api.DatumList || k == api.DatumSymbol {
			return d
		}
		return d.Kids[1]
	}
	out := list()
	for i, kid := range d.Kids {
		switch word := d.Kids[0].Text; {
		case word == "lambda" && i == 1:
		case word == "let" && i == 1:
			pairs := list()
			for _, pair := range kid.Kids {
				pairs.Kids = append(pairs.Kids, list(pair.Kids[0], unquoted(pair.Kids[1])))
			}
			kid = pairs
		default:
			kid = unquoted(kid)
		}
		out.Kids = append(out.Kids, kid)
	}
	return out
}

// TestBackOfOf: is the datum, but for quotes of numbers, #f, #t.
func TestBackOfOf(t *testing.T) {
	r := rand.New(rand.NewSource(71))
	shorter := 0
	for range 10000 {
		d := drawnForm(r)
		f, e, path := forms.Of(d)
		if e != api.OK || len(path) != 0 {
			t.Fatalf("%s: %d at %v", textOf(d), e, path)
		}
		back, e := forms.Back(f)
		want := unquoted(d)
		if e != api.OK || !read.Same(back, want) {
			t.Errorf("%s: %s, %d", textOf(d), textOf(back), e)
		}
		if !read.Same(d, want) {
			shorter++
			gives(t, want, fine(f))
		}
	}
	if shorter < 200 {
		t.Errorf("only %d have such quotes", shorter)
	}
}

// TestOfOfBack: is the form.
func TestOfOfBack(t *testing.T) {
	r := rand.New(rand.NewSource(72))
	some := 0
	for range 20000 {
		f := spoilt(r, plainForm(drawnForm(r)))
		d, e := forms.Back(f)
		if e != forms.Check(f) {
			t.Errorf("%s: Back %d, Check %d", dump(f), e, forms.Check(f))
		}
		if e == api.OK {
			some++
			gives(t, d, fine(f))
		}
	}
	if some < 2000 {
		t.Errorf("only %d are forms", some)
	}
}

// behind is a datum with other things, mostly forms, in the places of all that stand behind a path and not within it.
func behind(r *rand.Rand, d api.Datum, path []int) api.Datum {
	if len(path) == 0 {
		return d
	}
	d.Kids = slices.Clone(d.Kids)
	d.Kids[path[0]] = behind(r, d.Kids[path[0]], path[1:])
	for i := path[0] + 1; i < len(d.Kids); i++ {
		d.Kids[i] = drawnProgram(r, r.Intn(3))
		if r.Intn(3) == 0 {
			d.Kids[i] = drawnDatum(r, r.Intn(5))
		}
	}
	// A dot asks for a tail that is no list.
	if d.Dot {
		d.Kids[len(d.Kids)-1] = num(1)
	}
	return d
}

// TestWhatStandsBehind: an error's path leads to a datum, and what stands behind it does not matter.
func TestWhatStandsBehind(t *testing.T) {
	r := rand.New(rand.NewSource(73))
	changed := 0
	for range 20000 {
		d := flawed(r, drawnForm(r))
		f, e, path := forms.Of(d)
		if e == api.OK {
			continue
		}
		if !sameForm(f, api.Form{}) || !leads(d, path) {
			t.Errorf("%s: %s, %d, %v", textOf(d), dump(f), e, path)
			continue
		}
		for range 3 {
			other := behind(r, d, path)
			if _, w := read.Write(other); w != api.OK {
				t.Fatalf("%s: %d", textOf(other), w)
			}
			gives(t, other, wrong(e, path...))
			if !read.Same(d, other) {
				changed++
			}
		}
	}
	if changed < 3000 {
		t.Errorf("only %d have anything behind", changed)
	}
}

// leads tells whether a path leads to a datum.
func leads(d api.Datum, path []int) bool {
	for _, i := range path {
		if i < 0 || i >= len(d.Kids) {
			return false
		}
		d = d.Kids[i]
	}
	return true
}

// TestNamesWithin: a term's names are used by the whole form, or bound around the term; and the other way round.
func TestNamesWithin(t *testing.T) {
	r := rand.New(rand.NewSource(74))
	bound, free := 0, 0
	for range 8000 {
		f := plainForm(drawnForm(r))
		all := forms.Names(f)
		for _, s := range all {
			if !slices.ContainsFunc(termsOf(f), func(w within) bool { return w.f.Text == s && !w.isBound(s) }) {
				t.Errorf("%s does not use %s", dump(f), s)
			}
		}
		for _, w := range termsOf(f) {
			for _, s := range forms.Names(w.f) {
				switch {
				case w.isBound(s):
					bound++
				case slices.Contains(all, s):
					free++
				default:
					t.Errorf("%s uses %s, %s does not", dump(w.f), s, dump(f))
				}
			}
		}
	}
	if bound < 2000 || free < 2000 {
		t.Errorf("%d are bound, %d are free", bound, free)
	}
}

// TestNamesOfTwo: a begin's names are those of its forms, one behind the other; a lambda's are without its own, a let's with those of its values.
func TestNamesOfTwo(t *testing.T) {
	r := rand.New(rand.NewSource(75))
	for range 5000 {
		f, g := plainForm(drawnProgram(r, 3)), plainForm(drawnProgram(r, 3))
		a, b := forms.Names(f), forms.Names(g)
		both := once(slices.Concat(a, b))
		sameNames(t, begin(f, g), both)
		sameNames(t, call(f, g), both)
		sameNames(t, lambda("x y", f, g), without(both, "x", "y"))
		sameNames(t, let("x", f, g), once(slices.Concat(a, without(b, "x"))))
		sameNames(t, let("y", g, f), once(slices.Concat(b, without(a, "y"))))
		sameNames(t, named(api.FormSet, "x", f), once(slices.Concat([]string{"x"}, a)))
		sameNames(t, named(api.FormDefine, "z", g), once(slices.Concat([]string{"z"}, b)))
	}
}

func sameNames(t *testing.T, f api.Form, want []string) {
	t.Helper()
	if l := forms.Names(f); !slices.Equal(l, want) {
		t.Errorf("Names of %s: %q, not %q", dump(f), l, want)
	}
}

// once is a row of names, each where it comes first.
func once(l []string) []string {
	var out []string
	for _, s := range l {
		if !slices.Contains(out, s) {
			out = append(out, s)
		}
	}
	return out
}

func without(l []string, names ...string) []string {
	return slices.DeleteFunc(slices.Clone(l), func(s string) bool { return slices.Contains(names, s) })
}
