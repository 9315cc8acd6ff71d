package compile_test

import (
	"math/rand"
	"slices"
	"strconv"
	"strings"
	"testing"

	"dapple/api"
	"dapple/code"
	"dapple/forms"
	"dapple/words"
)

// TestTextThereAndBack: what is made is written as a text, and read again as the same.
func TestTextThereAndBack(t *testing.T) {
	r := rand.New(rand.NewSource(92))
	for range 3000 {
		l := drawnForms(r, 4, 4)
		c := compiled(t, table(t), l...)
		s, e := code.Text(c)
		back, e2, line := code.Parse(s)
		if e != api.OK || e2 != api.OK || line != 0 || !code.Same(c, back) {
			t.Fatalf("%s: %d, %d, %d", textOf(l...), e, e2, line)
		}
	}
}

// TestEachConstantOnce: and each procedure, global, constant is named by some instruction; globals are what forms.Names tells.
func TestEachConstantOnce(t *testing.T) {
	r := rand.New(rand.NewSource(93))
	for range 3000 {
		l := drawnForms(r, 4, 4)
		c := compiled(t, table(t), l...)
		used := map[api.Op][]bool{api.OpConst: make([]bool, len(c.Consts)), api.OpGlobal: make([]bool, len(c.Globals)), api.OpClosure: make([]bool, len(c.Procs))}
		used[api.OpClosure][0] = true
		for _, p := range c.Procs {
			for _, i := range p.Code {
				if i.Op == api.OpSetGlobal {
					i.Op = api.OpGlobal
				}
				if uses := used[i.Op]; uses != nil {
					uses[i.A] = true
				}
			}
		}
		for op, uses := range used {
			if slices.Contains(uses, false) {
				t.Errorf("%s: not all are used by %d", textOf(l...), op)
			}
		}
		sorted := slices.Clone(c.Consts)
		slices.Sort(sorted)
		if len(slices.Compact(sorted)) != len(c.Consts) {
			t.Errorf("%s: a constant stands there twice", textOf(l...))
		}
		var all []string
		for _, f := range l {
			all = append(all, forms.Names(f)...)
		}
		if !slices.Equal(c.Globals, once(all)) {
			t.Errorf("%s: %q, not %q", textOf(l...), c.Globals, once(all))
		}
	}
}

// isAhead tells whether a list begins with another one.
func isAhead[T comparable](a, b []T) bool { return len(a) <= len(b) && slices.Equal(a, b[:len(a)]) }

// TestFormsMore: at the end they change nothing in what is made of those ahead, but for procedure 0, which goes on.
func TestFormsMore(t *testing.T) {
	r := rand.New(rand.NewSource(94))
	for range 3000 {
		l := drawnForms(r, 6, 3)
		all := compiled(t, table(t), l...)
		for n := 1; n < len(l); n++ {
			c := compiled(t, table(t), l[:n]...)
			if !isAhead(c.Consts, all.Consts) || !isAhead(c.Globals, all.Globals) || len(c.Procs) > len(all.Procs) {
				t.Fatalf("%s: %d of %d", textOf(l...), n, len(l))
			}
			for i, p := range c.Procs[1:] {
				if q := all.Procs[i+1]; p.Params != q.Params || !slices.Equal(p.Code, q.Code) {
					t.Fatalf("%s: procedure %d", textOf(l...), i+1)
				}
			}
			first, whole := c.Procs[0].Code, all.Procs[0].Code
			end := len(first) - 1
			if !isAhead(first[:end], whole) || first[end].Op != api.OpReturn || whole[end].Op != api.OpPop {
				t.Fatalf("%s: procedure 0", textOf(l...))
			}
		}
	}
}

// renamed is a form in which all names that it binds are others, each a new one, by a map of those that are bound around it.
func renamed(f api.Form, now map[string]string, count *int) api.Form {
	if name, ok := now[f.Text]; ok {
		f.Text = name
	}
	inside := map[string]string{}
	for name, other := range now {
		inside[name] = other
	}
	names := slices.Clone(f.Names)
	for i, name := range names {
		*count++
		names[i] = "new" + strconv.Itoa(*count)
		inside[name] = names[i]
	}
	kids := slices.Clone(f.Kids)
	for i, kid := range kids {
		if i < bodyOf(f) {
			kids[i] = renamed(kid, now, count)
		} else {
			kids[i] = renamed(kid, inside, count)
		}
	}
	f.Names, f.Kids = names, kids
	return f
}

// TestOtherNames: of bound variables change nothing.
func TestOtherNames(t *testing.T) {
	r := rand.New(rand.NewSource(95))
	some := 0
	for range 3000 {
		l := drawnForms(r, 4, 4)
		count := 0
		var others []api.Form
		for _, f := range l {
			others = append(others, renamed(f, map[string]string{}, &count))
		}
		if count > 0 {
			some++
		}
		if !code.Same(compiled(t, table(t), l...), compiled(t, table(t), others...)) {
			t.Fatalf("%s and %s", textOf(l...), textOf(others...))
		}
	}
	if some < 1000 {
		t.Errorf("only %d have names", some)
	}
	for a, b := range map[string]string{
		"(lambda (x) (lambda (x) x))":           "(lambda (x) (lambda (y) y))",
		"(lambda (x y) (let ((x y)) x y))":      "(lambda (p q) (let ((r q)) r q))",
		"(let ((x x)) x)":                       "(let ((y x)) y)",
		"(lambda (f) (f (lambda (g) (f g))))":   "(lambda (g) (g (lambda (f) (g f))))",
		"(lambda (x) (set! x (let ((x x)) x)))": "(lambda (a) (set! a (let ((b a)) b)))",
	} {
		if !code.Same(compiled(t, table(t), formOf(t, a)), compiled(t, table(t), formOf(t, b))) {
			t.Errorf("%s and %s", a, b)
		}
	}
}

// TestOtherTables: one that has names already changes nothing but symbols' numbers.
func TestOtherTables(t *testing.T) {
	r := rand.New(rand.NewSource(96))
	unlike := 0
	for range 3000 {
		l := drawnForms(r, 4, 3)
		n, other := table(t), table(t, append(strings.Fields("q c if p x")[r.Intn(5):], someNames("s", r.Intn(9))...)...)
		a, b := compiled(t, n, l...), compiled(t, other, l...)
		if listing(n, a) != listing(other, b) {
			t.Fatalf("%s: %s and %s", textOf(l...), listing(n, a), listing(other, b))
		}
		if !code.Same(a, b) {
			unlike++
		}
		for i, w := range a.Consts {
			tag, _, _ := words.Of(w)
			if tag != api.TagSymbol && w != b.Consts[i] {
				t.Fatalf("%s: constant %d", textOf(l...), i)
			}
		}
		// With the same table once more it is the same to the last bit, and the table has what it had.
		had := n.All()
		if !code.Same(a, compiled(t, n, l...)) || !slices.Equal(had, n.All()) {
			t.Fatalf("%s once more", textOf(l...))
		}
	}
	if unlike < 500 {
		t.Errorf("only %d have symbols of other numbers", unlike)
	}
}

// TestTablesKnowNothingOfOneAnother: what one gets another one has not (R4).
func TestTablesKnowNothingOfOneAnother(t *testing.T) {
	n, other := table(t, "b"), table(t)
	compiled(t, n, formOf(t, "'(a b)"))
	if other.Len() != 0 {
		t.Error(other.All())
	}
	compiled(t, other, formOf(t, "'(b c)"))
	if strings.Join(n.All(), " ") != "b a" || strings.Join(other.All(), " ") != "b c" {
		t.Error(n.All(), other.All())
	}
}
