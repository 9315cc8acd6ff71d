package compile_test

import (
	"cmp"
	"fmt"
	"math/rand"
	"slices"
	"strings"
	"sync"
	"testing"
	"unsafe"

	"dapple/api"
	"dapple/code"
	"dapple/compile"
	"dapple/names"
)

// span is where a list's memory begins and ends, with the room behind it.
type span struct{ from, to uintptr }

// spanOf is a list's; nothing, if it has no memory.
func spanOf[T any](l []T) []span {
	if cap(l) == 0 {
		return nil
	}
	var one T
	from := uintptr(unsafe.Pointer(unsafe.SliceData(l)))
	return []span{{from, from + uintptr(cap(l))*unsafe.Sizeof(one)}}
}

// spanOfText is a text's. One of one byte may stand where all such texts do.
func spanOfText(s string) []span {
	if len(s) < 2 {
		return nil
	}
	from := uintptr(unsafe.Pointer(unsafe.StringData(s)))
	return []span{{from, from + uintptr(len(s))}}
}

// spansOf are those of all lists and names of code.
func spansOf(c api.Code) []span {
	out := slices.Concat(spanOf(c.Consts), spanOf(c.Globals), spanOf(c.Procs))
	for _, p := range c.Procs {
		out = append(out, spanOf(p.Code)...)
	}
	for _, name := range c.Globals {
		out = append(out, spanOfText(name)...)
	}
	return out
}

// spansOfForm are those of a form's texts, lists and what is in them.
func spansOfForm(f api.Form) []span {
	out := slices.Concat(spanOf(f.Names), spanOf(f.Kids), spanOf(f.Datum.Kids), spanOfText(f.Text))
	for _, name := range f.Names {
		out = append(out, spanOfText(name)...)
	}
	for _, kid := range f.Kids {
		out = append(out, spansOfForm(kid)...)
	}
	return out
}

// apart tells whether none of some shares memory with another one of them, or with one of others.
func apart(some, others []span) bool {
	byPlace := func(s, u span) int { return cmp.Compare(s.from, u.from) }
	slices.SortFunc(some, byPlace)
	for i := 1; i < len(some); i++ {
		if some[i].from < some[i-1].to {
			return false
		}
	}
	for _, o := range others {
		if slices.ContainsFunc(some, func(s span) bool { return s.from < o.to && o.from < s.to }) {
			return false
		}
	}
	return true
}

// TestNothingIsShared: neither with forms that were handed in, nor by two lists of one answer, nor by two answers (R2).
func TestNothingIsShared(t *testing.T) {
	if l := []int{1, 2, 3}; apart(slices.Concat(spanOf(l[:1]), spanOf(l[2:])), nil) || apart(spanOf(l), spanOf(l[1:])) || !apart(spanOf(l[:1:1]), spanOf(l[1:])) {
		t.Fatal("what is shared is not seen")
	}
	r := rand.New(rand.NewSource(97))
	for range 1500 {
		l := append(drawnForms(r, 4, 3), formsOf(t, "(define some-name other-name) (set! long (lambda (bound) more))")...)
		n := table(t)
		c, again := compiled(t, n, l...), compiled(t, n, l...)
		given := spanOf(l)
		for _, f := range l {
			given = append(given, spansOfForm(f)...)
		}
		if !apart(slices.Concat(spansOf(c), spansOf(again)), given) {
			t.Fatalf("%s shares memory", textOf(l...))
		}
	}
	c := compiled(t, table(t))
	if again := compiled(t, table(t)); !apart(slices.Concat(spansOf(c), spansOf(again)), nil) {
		t.Error("no forms share memory")
	}
}

// behind is a list in memory of its own, with two things in the room behind it.
func behind[T any](l []T, one, two T) []T {
	return append(slices.Clone(l), one, two)[:len(l)]
}

// roomy is a form in memory with room behind each list, in which something stands that may not be.
func roomy(f api.Form) api.Form {
	f.Names = behind(f.Names, "if", "car")
	f.Kids = behind(f.Kids, api.Form{}, api.Form{Kind: 99})
	for i := range f.Kids {
		f.Kids[i] = roomy(f.Kids[i])
	}
	f.Datum = roomyDatum(f.Datum)
	return f
}

func roomyDatum(d api.Datum) api.Datum {
	d.Kids = behind(d.Kids, api.Datum{}, api.Datum{Kind: 99})
	for i := range d.Kids {
		d.Kids[i] = roomyDatum(d.Kids[i])
	}
	return d
}

// wide is a form with the room behind its lists.
func wide(f api.Form) api.Form {
	f.Names = f.Names[:cap(f.Names)]
	f.Kids = slices.Clone(f.Kids[:cap(f.Kids)])
	for i := range f.Kids {
		f.Kids[i] = wide(f.Kids[i])
	}
	f.Datum = wideDatum(f.Datum)
	return f
}

func wideDatum(d api.Datum) api.Datum {
	d.Kids = slices.Clone(d.Kids[:cap(d.Kids)])
	for i := range d.Kids {
		d.Kids[i] = wideDatum(d.Kids[i])
	}
	return d
}

// whole tells all of forms, with the room behind their lists.
func whole(l []api.Form) string {
	var b strings.Builder
	for _, f := range l[:cap(l)] {
		fmt.Fprintf(&b, "%+v\n", wide(f))
	}
	return b.String()
}

// TestWhatIsHandedInStays: neither it nor what lies behind it is changed, or read (R2, R10).
func TestWhatIsHandedInStays(t *testing.T) {
	r := rand.New(rand.NewSource(98))
	wrong := 0
	for range 1000 {
		l := drawnForms(r, 4, 3)
		if r.Intn(4) == 0 {
			l = flawed(t, r, l)
		}
		var given []api.Form
		for _, f := range l {
			given = append(given, roomy(f))
		}
		given = behind(given, api.Form{}, api.Form{Kind: 99})
		before := whole(given)
		n, other := table(t), table(t)
		c, e, at := compile.Compile(n, given...)
		d, e2, at2 := compile.Compile(other, l...)
		if !code.Same(c, d) || e != e2 || at != at2 || !slices.Equal(n.All(), other.All()) {
			t.Fatalf("%s: %d at %d, and %d at %d", textOf(l...), e, at, e2, at2)
		}
		if whole(given) != before {
			t.Fatalf("%s is changed", textOf(l...))
		}
		if e != api.OK {
			wrong++
		}
	}
	if wrong < 50 {
		t.Errorf("only %d are wrong", wrong)
	}
}

// scribble lays other things over all that code's lists hold, and into the room behind them.
func scribble(c api.Code) {
	for i := range c.Procs {
		l := c.Procs[i].Code[:cap(c.Procs[i].Code)]
		for at := range l {
			l[at] = api.Instr{Op: 99, A: 77}
		}
	}
	for i := range c.Procs[:cap(c.Procs)] {
		c.Procs[:cap(c.Procs)][i] = api.Proc{Params: 77}
	}
	for i := range c.Consts[:cap(c.Consts)] {
		c.Consts[:cap(c.Consts)][i] = 77
	}
	for i := range c.Globals[:cap(c.Globals)] {
		c.Globals[:cap(c.Globals)][i] = "over"
	}
}

// scribbleForm does the same with a form.
func scribbleForm(f *api.Form) {
	for i := range f.Kids {
		scribbleForm(&f.Kids[i])
	}
	for i := range f.Names {
		f.Names[i] = "over"
	}
	for i := range f.Datum.Kids {
		f.Datum.Kids[i] = api.Datum{Kind: api.DatumInt, N: 77}
	}
	*f = api.Form{Kind: 99}
}

// TestNothingIsKeptByCalls: what is changed in what was handed in, or came out, is not seen in another answer.
func TestNothingIsKeptByCalls(t *testing.T) {
	for _, s := range []string{"", "(define f (lambda (x y) (if x (f y) '(a (b) . c))))", "(let ((x 1) (y z)) (set! w 2) (begin x 'b)) u"} {
		n := table(t)
		l := formsOf(t, s)
		first, second := compiled(t, n, l...), compiled(t, n, l...)
		want := listing(n, first)
		scribble(first)
		if got := listing(n, second); got != want {
			t.Errorf("%s: %s", s, got)
		}
		third := compiled(t, n, l...)
		for i := range l {
			scribbleForm(&l[i])
		}
		if got := listing(n, third); got != want {
			t.Errorf("%s: %s", s, got)
		}
		if got := listing(n, compiled(t, n, formsOf(t, s)...)); got != want {
			t.Errorf("%s: %s", s, got)
		}
	}
}

// TestRoomBehindIsNobodyElses: what is put behind a list that came out stands in no other one.
func TestRoomBehindIsNobodyElses(t *testing.T) {
	r := rand.New(rand.NewSource(99))
	for range 1000 {
		n := table(t)
		c := compiled(t, n, drawnForms(r, 4, 3)...)
		want := listing(n, c)
		_ = append(c.Consts, 0, 0, 0)
		_ = append(c.Globals, "over", "over")
		for _, p := range c.Procs {
			_ = append(p.Code, api.Instr{Op: 99}, api.Instr{Op: 99}, api.Instr{Op: 99})
		}
		_ = append(c.Procs, api.Proc{}, api.Proc{})
		if got := listing(n, c); got != want {
			t.Fatalf("%s, not %s", got, want)
		}
	}
}

// TestLongSourcesAreNotKept: a global's name is not cut out of the source that its form was read from.
func TestLongSourcesAreNotKept(t *testing.T) {
	s := strings.Repeat("some-name ", 500)
	for _, f := range formsOf(t, "(define x other) (set! x (lambda () x)) x") {
		f.Text = s[:9]
		if c := compiled(t, table(t), f); c.Globals[0] != "some-name" || !apart(spansOf(c), spanOfText(s)) {
			t.Errorf("a source is kept by %q", c.Globals)
		}
	}
}

// TestAnswersHangOnWhatIsGivenAlone: asked by many at one time, with tables of their own or with one, the call answers the same.
func TestAnswersHangOnWhatIsGivenAlone(t *testing.T) {
	var all sync.WaitGroup
	shared := table(t, strings.Fields("a b c x car if quote p q")...)
	for seed := range 8 {
		all.Go(func() {
			r := rand.New(rand.NewSource(int64(seed % 2)))
			for range 150 {
				l := drawnForms(r, 4, 3)
				want := plainCompile(nil, l)
				own, _ := names.New()
				for _, n := range []*names.Table{own, shared} {
					c, e, at := compile.Compile(n, l...)
					if listing(n, c) != want.listing || e != want.e || at != want.at {
						t.Errorf("%s: %s", textOf(l...), listing(n, c))
					}
				}
			}
		})
	}
	all.Wait()
}
