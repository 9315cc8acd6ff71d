package forms_test

import (
	"cmp"
	"math/rand"
	"slices"
	"strings"
	"testing"
	"unsafe"

	"dapple/api"
	"dapple/forms"
	"dapple/read"
)

// span is where a list's memory begins and ends, with the room behind it.
type span struct{ from, to uintptr }

// spanOf is a list's; nothing, if it has no memory.
func spanOf[T any](l []T) []span {
	if cap(l) == 0 {
		return nil
	}
	var one T
	from := uintptr(unsafe.Pointer(unsafe.SliceData(l)))
	return []span{{from, from + uintptr(cap(l))*unsafe.Sizeof(one)}}
}

func spansOfDatum(d api.Datum) []span {
	out := spanOf(d.Kids)
	for _, kid := range d.Kids {
		out = append(out, spansOfDatum(kid)...)
	}
	return out
}

func spansOfForm(f api.Form) []span {
	out := slices.Concat(spanOf(f.Kids), spanOf(f.Names), spansOfDatum(f.Datum))
	for _, kid := range f.Kids {
		out = append(out, spansOfForm(kid)...)
	}
	return out
}

// apart tells whether no two lists have memory in common.
func apart(spans ...[]span) bool {
	all := slices.Concat(spans...)
	slices.SortFunc(all, func(s, u span) int { return cmp.Compare(s.from, u.from) })
	for i := 1; i < len(all); i++ {
		if all[i].from < all[i-1].to {
			return false
		}
	}
	return true
}

// TestNothingIsShared: neither with what was handed in, nor by two lists of one answer, nor by two answers (R2).
func TestNothingIsShared(t *testing.T) {
	if l := []int{1, 2, 3}; apart(spanOf(l[:1]), spanOf(l[2:])) || !apart(spanOf(l[:1:1]), spanOf(l[1:])) {
		t.Fatal("what is shared is not seen")
	}
	r := rand.New(rand.NewSource(76))
	sources := []api.Datum{datum(t, "(lambda (x y) '(a (b . c) ()) (let ((x 'd) (y '(1))) '((e)) (set! x y)) (if x (while y) (f '(x))))"), datum(t, "'((((1) 2) 3) . 4)")}
	for range 2000 {
		sources = append(sources, drawnForm(r), flawed(r, drawnForm(r)))
	}
	for _, d := range sources {
		// What is drawn may have one list in two places.
		d = roomy(d)
		f, e, path := forms.Of(d)
		again, _, second := forms.Of(d)
		if !apart(spansOfDatum(d), spansOfForm(f), spansOfForm(again), spanOf(path), spanOf(second)) {
			t.Fatalf("Of of %s shares memory", textOf(d))
		}
		if e != api.OK {
			continue
		}
		back, _ := forms.Back(f)
		other, _ := forms.Back(f)
		names, more := forms.Names(f), forms.Names(f)
		if !apart(spansOfForm(f), spansOfDatum(d), spansOfDatum(back), spansOfDatum(other), spanOf(names), spanOf(more)) {
			t.Fatalf("Back or Names of %s share memory", dump(f))
		}
	}
}

// roomy is a datum in memory with room behind each list, in which something stands that may not be.
func roomy(d api.Datum) api.Datum {
	kids := make([]api.Datum, 0, len(d.Kids)+2)
	for _, kid := range d.Kids {
		kids = append(kids, roomy(kid))
	}
	n := len(kids)
	copy(kids[n:n+2], []api.Datum{{Kind: 99, Text: "behind"}, sym("if")})
	d.Kids = kids
	return d
}

// roomyForm is the same of a form.
func roomyForm(f api.Form) api.Form {
	names := append(slices.Clone(f.Names), "if", "behind")
	f.Names = names[:len(names)-2]
	kids := make([]api.Form, 0, len(f.Kids)+2)
	for _, kid := range f.Kids {
		kids = append(kids, roomyForm(kid))
	}
	n := len(kids)
	copy(kids[n:n+2], []api.Form{{Kind: 99, Text: "behind"}, name("if")})
	f.Kids = kids
	f.Datum = roomy(f.Datum)
	return f
}

// whole tells all of a datum, with the room behind its lists.
func whole(d api.Datum) string {
	var b strings.Builder
	b.WriteString(textOf(api.Datum{Kind: d.Kind, N: d.N, Text: d.Text, Dot: d.Dot}))
	for _, kid := range d.Kids[:cap(d.Kids)] {
		b.WriteString("<" + whole(kid) + ">")
	}
	return b.String()
}

// wholeForm tells all of a form, with the room behind its lists.
func wholeForm(f api.Form) string {
	var b strings.Builder
	b.WriteString(dump(api.Form{Kind: f.Kind, Text: f.Text, Names: f.Names[:cap(f.Names)]}))
	b.WriteString(whole(f.Datum))
	for _, kid := range f.Kids[:cap(f.Kids)] {
		b.WriteString("<" + wholeForm(kid) + ">")
	}
	return b.String()
}

// TestWhatIsHandedInStays: neither it nor what lies behind it is changed, or read (R2, R10).
func TestWhatIsHandedInStays(t *testing.T) {
	r := rand.New(rand.NewSource(78))
	for range 3000 {
		d := drawnForm(r)
		if r.Intn(2) == 0 {
			d = flawed(r, d)
		}
		wide := roomy(d)
		before := whole(wide)
		want := plainOf(d)
		gives(t, wide, want)
		if whole(wide) != before {
			t.Fatalf("Of changes %s", textOf(d))
		}
		if want.e != api.OK {
			continue
		}
		f := want.f
		if r.Intn(3) == 0 {
			f = spoilt(r, f)
		}
		wideForm := roomyForm(f)
		before = wholeForm(wideForm)
		if e := formPlain(t, f); e != formPlain(t, wideForm) || wholeForm(wideForm) != before {
			t.Fatalf("%s is changed, or what lies behind it is read", dump(f))
		}
	}
}

// TestNothingIsKeptByCalls: what is changed in what was handed in, or came out, is not seen in a later answer, nor in an earlier one.
func TestNothingIsKeptByCalls(t *testing.T) {
	source := "(lambda (x y) '(a (b)) (let ((z 'd)) (x y z '(c) g)))"
	d := datum(t, source)
	f, _, _ := forms.Of(d)
	back, _ := forms.Back(f)
	names := forms.Names(f)
	scribble(d)
	if !sameForm(f, plainForm(datum(t, source))) {
		t.Errorf("Of keeps what was handed in: %s", dump(f))
	}
	scribbleForm(f)
	if !read.Same(back, datum(t, source)) || !slices.Equal(names, []string{"g"}) {
		t.Errorf("Back or Names keep what was handed in: %s, %q", textOf(back), names)
	}
	_, _, path := forms.Of(datum(t, "(f (g if))"))
	path[0] = 77
	gives(t, datum(t, "(f (g if))"), noName(1, 1))
}

// scribble lays other things over all that a datum's lists hold.
func scribble(d api.Datum) {
	for i := range d.Kids {
		scribble(d.Kids[i])
		d.Kids[i] = num(77)
	}
}

func scribbleForm(f api.Form) {
	scribble(f.Datum)
	for i := range f.Names {
		f.Names[i] = "over"
	}
	for i := range f.Kids {
		scribbleForm(f.Kids[i])
		f.Kids[i] = name("over")
	}
}
