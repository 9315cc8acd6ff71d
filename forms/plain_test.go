package forms_test

import (
	"fmt"
	"iter"
	"math/rand"
	"slices"
	"strings"
	"testing"

	"dapple/api"
	"dapple/forms"
	"dapple/read"
)

// role is what a datum stands for.
type role int

const (
	asForm role = iota
	asVariable
	asNames
	asBindings
	asBinding
	asAnything // a keyword at its place, what is quoted
)

// item is a datum that is still to be looked at.
type item struct {
	d     api.Datum
	path  []int
	role  role
	ahead *[]string // the names of the same lambda or let that stand ahead of it
}

// plainOf is the chapter once more, without a function that calls itself: data are looked at one by one, in their order, each for its role.
func plainOf(d api.Datum) told {
	if _, e := read.Write(d); e != api.OK {
		return noForm()
	}
	left := []item{{d: d}}
	for len(left) > 0 {
		i := left[0]
		kids, e := i.look()
		if e != api.OK {
			return wrong(e, i.path...)
		}
		left = append(kids, left[1:]...)
	}
	return fine(plainForm(d))
}

// look is the error of an item, else its Kids with their roles.
func (i item) look() ([]item, api.Errno) {
	isList := i.d.Kind == api.DatumList && !i.d.Dot
	switch i.role {
	case asVariable:
		prims, _ := primitives()
		if i.d.Kind != api.DatumSymbol || slices.Contains(keywords(), i.d.Text) || slices.Contains(prims, i.d.Text) {
			return nil, api.ErrFormsName
		}
		if i.ahead != nil && slices.Contains(*i.ahead, i.d.Text) {
			return nil, api.ErrFormsTwice
		}
		if i.ahead != nil {
			*i.ahead = append(*i.ahead, i.d.Text)
		}
		return nil, api.OK
	case asNames:
		i.ahead = new([]string)
		return i.kids(asVariable), unless(isList)
	case asBindings:
		i.ahead = new([]string)
		return i.kids(asBinding), unless(isList)
	case asBinding:
		return i.kids(asVariable, asForm), unless(isList && len(i.d.Kids) == 2)
	case asForm:
		if i.d.Kind == api.DatumSymbol && slices.Contains(keywords(), i.d.Text) {
			return nil, api.ErrFormsName
		}
		if i.d.Kind == api.DatumList {
			return i.lookList()
		}
	}
	return nil, api.OK
}

// unless is ErrFormsForm, if something is not so.
func unless(ok bool) api.Errno {
	if ok {
		return api.OK
	}
	return api.ErrFormsForm
}

// kids are the items of an item's Kids; the last one of the roles is that of all behind, too.
func (i item) kids(roles ...role) []item {
	var l []item
	for at, kid := range i.d.Kids {
		l = append(l, item{kid, append(slices.Clone(i.path), at), roles[min(at, len(roles)-1)], i.ahead})
	}
	return l
}

// lookList is look of a list where a form is asked for.
func (i item) lookList() ([]item, api.Errno) {
	n := len(i.d.Kids)
	if n == 0 || i.d.Dot {
		return nil, api.ErrFormsForm
	}
	i.ahead = nil
	roles, ok := []role{asAnything, asForm}, false
	switch i.d.Kids[0].Text {
	case "quote":
		roles, ok = []role{asAnything}, n == 2
	case "if":
		ok = n == 3 || n == 4
	case "lambda":
		roles, ok = []role{asAnything, asNames, asForm}, n >= 3
	case "define":
		roles, ok = []role{asAnything, asVariable, asForm}, n == 3 && len(i.path) == 0
	case "set!":
		roles, ok = []role{asAnything, asVariable, asForm}, n == 3
	case "begin", "while":
		ok = n >= 2
	case "let":
		roles, ok = []role{asAnything, asBindings, asForm}, n >= 3
	case "spawn", "join", "lock", "unlock":
		ok = n == 2
	case "yield":
		ok = n == 1
	default:
		names, args := primitives()
		at := slices.Index(names, i.d.Kids[0].Text)
		roles, ok = []role{asForm}, at < 0 || n == args[at]+1
	}
	if !ok {
		return nil, api.ErrFormsForm
	}
	return i.kids(roles...), api.OK
}

// plainForm is the form of a datum that is one.
func plainForm(d api.Datum) api.Form {
	switch d.Kind {
	case api.DatumSymbol:
		return name(d.Text)
	case api.DatumList:
	default:
		return quote(d)
	}
	word := d.Kids[0].Text
	at := slices.Index(keywords(), word)
	kinds := []api.FormKind{api.FormQuote, api.FormIf, api.FormLambda, api.FormDefine, api.FormSet, api.FormBegin, api.FormLet, api.FormWhile, api.FormSpawn, api.FormJoin, api.FormLock, api.FormUnlock, api.FormYield}
	if at < 0 {
		return call(plainForms(d.Kids)...)
	}
	f := api.Form{Kind: kinds[at]}
	rest := d.Kids[1:]
	switch word {
	case "quote":
		return quote(rest[0])
	case "define", "set!":
		f.Text, rest = rest[0].Text, rest[1:]
	case "lambda":
		for _, kid := range rest[0].Kids {
			f.Names = append(f.Names, kid.Text)
		}
		rest = rest[1:]
	case "let":
		var values []api.Datum
		for _, kid := range rest[0].Kids {
			f.Names = append(f.Names, kid.Kids[0].Text)
			values = append(values, kid.Kids[1])
		}
		rest = append(values, rest[1:]...)
	}
	f.Kids = plainForms(rest)
	return f
}

func plainForms(l []api.Datum) []api.Form {
	var out []api.Form
	for _, d := range l {
		out = append(out, plainForm(d))
	}
	return out
}

// within is a term of a form, and the terms around it, with the Kid of each that leads to it.
type within struct {
	f    api.Form
	outs []api.Form
	at   []int
}

// termsOf are a form's terms in its order.
func termsOf(f api.Form) []within {
	left, out := []within{{f: f}}, []within{}
	for len(left) > 0 {
		w := left[len(left)-1]
		left = left[:len(left)-1]
		out = append(out, w)
		for at, kid := range slices.Backward(w.f.Kids) {
			left = append(left, within{kid, append(slices.Clone(w.outs), w.f), append(slices.Clone(w.at), at)})
		}
	}
	return out
}

// plainCheck is the chapter once more.
func plainCheck(f api.Form) api.Errno {
	for _, w := range termsOf(f) {
		switch {
		case !plainShape(w.f) || w.f.Kind == api.FormDefine && len(w.outs) > 0:
			return api.ErrFormsForm
		case !plainNamed(w.f):
			return api.ErrFormsName
		}
		for i, s := range w.f.Names {
			if slices.Contains(w.f.Names[:i], s) {
				return api.ErrFormsTwice
			}
		}
	}
	_, e := read.Write(plainBack(f))
	return unless(e == api.OK)
}

// plainShape tells whether a term gives rise to no ErrFormsForm.
func plainShape(f api.Form) bool {
	kids, most, text, names := len(f.Kids), 1<<40, f.Text != "", len(f.Names) > 0
	least := 1
	switch f.Kind {
	case api.FormQuote:
		least, most = 0, 0
	case api.FormName:
		least, most, text = 0, 0, false
	case api.FormIf:
		least, most = 2, 3
	case api.FormLambda:
		names = false
	case api.FormDefine, api.FormSet:
		most, text = 1, false
	case api.FormBegin, api.FormWhile:
	case api.FormLet:
		least, names = len(f.Names)+1, false
	case api.FormCall:
		prims, args := primitives()
		if kids > 0 && f.Kids[0].Kind == api.FormName && slices.Contains(prims, f.Kids[0].Text) {
			least = args[slices.Index(prims, f.Kids[0].Text)] + 1
			most = least
		}
	case api.FormSpawn, api.FormJoin, api.FormLock, api.FormUnlock:
		most = 1
	case api.FormYield:
		least, most = 0, 0
	default:
		return false
	}
	d := f.Datum
	datum := d.Kind == 0 && d.N == 0 && d.Text == "" && len(d.Kids) == 0 && !d.Dot
	if f.Kind == api.FormQuote {
		_, e := read.Write(d)
		datum = e == api.OK
	}
	return least <= kids && kids <= most && !text && !names && datum
}

// plainNamed tells whether a term's names may stand there.
func plainNamed(f api.Form) bool {
	refusing := keywords()
	if f.Kind != api.FormName {
		prims, _ := primitives()
		refusing = append(refusing, prims...)
	}
	l := f.Names
	if f.Kind == api.FormName || f.Kind == api.FormDefine || f.Kind == api.FormSet {
		l = []string{f.Text}
	}
	for _, s := range l {
		d, e, _ := read.Read(s)
		if e != api.OK || len(d) != 1 || !read.Same(d[0], sym(s)) || slices.Contains(refusing, s) {
			return false
		}
	}
	return true
}

// plainBack is the datum of a form that is one.
func plainBack(f api.Form) api.Datum {
	var l []api.Datum
	for _, kid := range f.Kids {
		l = append(l, plainBack(kid))
	}
	with := func(word string, ahead ...api.Datum) api.Datum {
		return list(append(append([]api.Datum{sym(word)}, ahead...), l...)...)
	}
	switch f.Kind {
	case api.FormQuote:
		if f.Datum.Kind != api.DatumSymbol && f.Datum.Kind != api.DatumList {
			return f.Datum
		}
		return list(sym("quote"), f.Datum)
	case api.FormName:
		return sym(f.Text)
	case api.FormIf:
		return with("if")
	case api.FormLambda:
		return with("lambda", list(plainSymbols(f.Names)...))
	case api.FormDefine:
		return with("define", sym(f.Text))
	case api.FormSet:
		return with("set!", sym(f.Text))
	case api.FormBegin:
		return with("begin")
	case api.FormLet:
		pairs := list()
		for i, s := range plainSymbols(f.Names) {
			pairs.Kids = append(pairs.Kids, list(s, l[i]))
		}
		l = l[len(f.Names):]
		return with("let", pairs)
	case api.FormWhile:
		return with("while")
	case api.FormCall:
		return list(l...)
	}
	return with(map[api.FormKind]string{api.FormSpawn: "spawn", api.FormJoin: "join", api.FormLock: "lock", api.FormUnlock: "unlock", api.FormYield: "yield"}[f.Kind])
}

func plainSymbols(names []string) []api.Datum {
	var l []api.Datum
	for _, s := range names {
		l = append(l, sym(s))
	}
	return l
}

// isBound tells whether one of the terms around binds a name where a term stands.
func (w within) isBound(s string) bool {
	for i, out := range w.outs {
		if slices.Contains(out.Names, s) && (out.Kind == api.FormLambda || w.at[i] >= len(out.Names)) {
			return true
		}
	}
	return false
}

// plainNames is the chapter once more: each variable, held against what stands around it.
func plainNames(f api.Form) []string {
	prims, _ := primitives()
	var l []string
	for _, w := range termsOf(f) {
		if s := w.f.Text; s != "" && !w.isBound(s) && !slices.Contains(prims, s) && !slices.Contains(l, s) {
			l = append(l, s)
		}
	}
	return l
}

// sameForm tells whether two forms are the same in all fields; nil and empty are the same thing.
func sameForm(f, g api.Form) bool {
	return f.Kind == g.Kind && f.Text == g.Text && slices.Equal(f.Names, g.Names) && read.Same(f.Datum, g.Datum) && slices.EqualFunc(f.Kids, g.Kids, sameForm)
}

// dump tells all fields of a form.
func dump(f api.Form) string {
	var b strings.Builder
	dumpTo(&b, f)
	return b.String()
}

func dumpTo(b *strings.Builder, f api.Form) {
	fmt.Fprintf(b, "<%d %q %q", f.Kind, f.Text, f.Names)
	if !read.Same(f.Datum, api.Datum{}) {
		fmt.Fprintf(b, " '%s", textOf(f.Datum))
	}
	for _, kid := range f.Kids {
		b.WriteString(" ")
		dumpTo(b, kid)
	}
	b.WriteString(">")
}

// textOf is a datum's text; of one that can't be written all its fields.
func textOf(d api.Datum) string {
	if text, e := read.Write(d); e == api.OK {
		return text
	}
	return fmt.Sprintf("%+v", d)
}

// short is the beginning of a long text.
func short(s string) string {
	if len(s) > 300 {
		return s[:300] + ".."
	}
	return s
}

// samePlain holds Of of a datum, and what can be asked of its form, against the chapter.
func samePlain(t *testing.T, d api.Datum) told {
	t.Helper()
	want := plainOf(d)
	gives(t, d, want)
	if want.e == api.OK {
		formPlain(t, want.f)
	}
	return want
}

// formPlain holds Check, Back and Names of a form against the chapter.
func formPlain(t *testing.T, f api.Form) api.Errno {
	t.Helper()
	e := plainCheck(f)
	if e != api.OK {
		refused(t, f, e)
		return e
	}
	taken(t, f, plainBack(f))
	if l, want := forms.Names(f), plainNames(f); !slices.Equal(l, want) {
		t.Errorf("Names of %s: %q, not %q", short(dump(f)), l, want)
	}
	return api.OK
}

// allData are all data of just so many, of these without Kids; lists also with a dot, if that is asked for.
func allData(atoms []string, size int, dots bool) iter.Seq[api.Datum] {
	return func(yield func(api.Datum) bool) {
		if size == 1 {
			for _, s := range atoms {
				if l, _, _ := read.Read(s); !yield(l[0]) {
					return
				}
			}
			return
		}
		for kids := range allRows(atoms, size-1, dots) {
			if !yield(list(kids...)) {
				return
			}
			if n := len(kids); dots && n >= 2 && kids[n-1].Kind != api.DatumList && !yield(dot(kids...)) {
				return
			}
		}
	}
}

// allRows are all rows of data that are so many together.
func allRows(atoms []string, size int, dots bool) iter.Seq[[]api.Datum] {
	return func(yield func([]api.Datum) bool) {
		if size == 0 {
			yield(nil)
			return
		}
		for first := 1; first <= size; first++ {
			for d := range allData(atoms, first, dots) {
				for rest := range allRows(atoms, size-first, dots) {
					if !yield(append([]api.Datum{d}, rest...)) {
						return
					}
				}
			}
		}
	}
}

// TestAllSmallData: every one over some words, up to a size.
func TestAllSmallData(t *testing.T) {
	seen := map[api.Errno]int{}
	for _, c := range []struct {
		atoms string
		size  int
		dots  bool
	}{
		{"x 1 car cas if quote lambda let define set! begin while spawn join lock unlock yield ()", 4, true},
		{"x y if lambda let quote define ()", 5, true},
		{"x car let lambda ()", 6, true},
		{"x y let ()", 7, false},
		{"x lambda", 8, true},
		{"x let", 9, false},
	} {
		for size := range c.size {
			for d := range allData(strings.Fields(c.atoms), size+1, c.dots) {
				seen[samePlain(t, d).e]++
			}
		}
	}
	for _, e := range []api.Errno{api.OK, api.ErrFormsForm, api.ErrFormsName, api.ErrFormsTwice} {
		if seen[e] < 10 {
			t.Errorf("error %d was seen %d times", e, seen[e])
		}
	}
}

// drawnDatum is one that is no more than a datum, mostly.
func drawnDatum(r *rand.Rand, size int) api.Datum {
	if size <= 1 {
		prims, _ := primitives()
		words := slices.Concat(keywords(), prims, strings.Fields("x y z x y z x y z x y z ... a b"))
		switch r.Intn(6) {
		case 0:
			return num(r.Int63n(1<<60) - 1<<59)
		case 1:
			return []api.Datum{no, yes, list(), num(1)}[r.Intn(4)]
		default:
			return sym(words[r.Intn(len(words))])
		}
	}
	l := list()
	for size > 1 {
		n := 1 + r.Intn(size-1)
		l.Kids = append(l.Kids, drawnDatum(r, n))
		size -= n
	}
	l.Dot = len(l.Kids) >= 2 && l.Kids[len(l.Kids)-1].Kind != api.DatumList && r.Intn(6) == 0
	return l
}

// drawnVariable is a variable's name, out of a few.
func drawnVariable(r *rand.Rand) api.Datum {
	return sym([]string{"x", "y", "z", "a", "b", "f"}[r.Intn(6)])
}

// drawnVariables are some, all unlike.
func drawnVariables(r *rand.Rand) []api.Datum {
	var l []api.Datum
	for _, i := range r.Perm(6)[:r.Intn(4)] {
		l = append(l, sym([]string{"x", "y", "z", "a", "b", "f"}[i]))
	}
	return l
}

// drawnProgram is a datum that is a form, and no define.
func drawnProgram(r *rand.Rand, depth int) api.Datum {
	if depth <= 0 {
		prims, _ := primitives()
		return []api.Datum{drawnVariable(r), drawnVariable(r), num(int64(r.Intn(9))), yes, no, sym(prims[r.Intn(len(prims))]), list(sym("quote"), drawnDatum(r, r.Intn(5))), list(sym("yield"))}[r.Intn(8)]
	}
	some := func(n int) []api.Datum {
		var l []api.Datum
		for range n {
			l = append(l, drawnProgram(r, depth-1-r.Intn(2)))
		}
		return l
	}
	with := func(word string, ahead ...api.Datum) func(...api.Datum) api.Datum {
		return func(l ...api.Datum) api.Datum { return list(slices.Concat([]api.Datum{sym(word)}, ahead, l)...) }
	}
	switch r.Intn(10) {
	case 0:
		return with("if")(some(2 + r.Intn(2))...)
	case 1, 2:
		return with("lambda", list(drawnVariables(r)...))(some(1 + r.Intn(2))...)
	case 3:
		return with("set!", drawnVariable(r))(some(1)...)
	case 4:
		return with([]string{"begin", "while"}[r.Intn(2)])(some(1 + r.Intn(3))...)
	case 5, 6:
		pairs := list()
		for _, v := range drawnVariables(r) {
			pairs.Kids = append(pairs.Kids, list(v, some(1)[0]))
		}
		return with("let", pairs)(some(1 + r.Intn(2))...)
	case 7:
		return with([]string{"spawn", "join", "lock", "unlock"}[r.Intn(4)])(some(1)...)
	case 8:
		names, args := primitives()
		i := r.Intn(len(names))
		return with(names[i])(some(args[i])...)
	default:
		return list(append([]api.Datum{[]api.Datum{drawnVariable(r), with("lambda", list())(some(1)...)}[r.Intn(2)]}, some(r.Intn(3))...)...)
	}
}

// drawnForm is a datum that is a form.
func drawnForm(r *rand.Rand) api.Datum {
	d := drawnProgram(r, r.Intn(5))
	if r.Intn(4) == 0 {
		return list(sym("define"), drawnVariable(r), d)
	}
	return d
}

// pathsOf are those to all data of a datum, in its order.
func pathsOf(d api.Datum) [][]int {
	out := [][]int{nil}
	for i, kid := range d.Kids {
		for _, path := range pathsOf(kid) {
			out = append(out, append([]int{i}, path...))
		}
	}
	return out
}

// at is the datum to which a path leads.
func at(d api.Datum, path []int) api.Datum {
	for _, i := range path {
		d = d.Kids[i]
	}
	return d
}

// flawed is a datum of which one place is changed, perhaps so that it is no form any more.
func flawed(r *rand.Rand, d api.Datum) api.Datum {
	paths := pathsOf(d)
	path := paths[r.Intn(len(paths))]
	there := at(d, path)
	there.Kids = slices.Clone(there.Kids)
	n := len(there.Kids)
	switch change := r.Intn(8); {
	case change == 0 && n > 0:
		there.Kids = slices.Delete(there.Kids, n-1, n)
	case change == 1 && n > 0:
		there.Kids = append(there.Kids, there.Kids[r.Intn(n)])
	case change == 2 && n > 0:
		i := r.Intn(n)
		there.Kids = slices.Delete(there.Kids, i, i+1)
	case change == 3:
		there = list(there)
	case change == 4:
		there = list(sym("define"), sym("x"), there)
	case change == 5:
		there = at(d, paths[r.Intn(len(paths))])
	case change == 6:
		there = drawnVariable(r)
	default:
		there = drawnDatum(r, r.Intn(4))
	}
	if there.Dot && (len(there.Kids) < 2 || there.Kids[len(there.Kids)-1].Kind == api.DatumList) {
		there.Dot = false
	}
	// A tail that has become a list goes on the list around it.
	d = put(d, path, there)
	if _, e := read.Write(d); e != api.OK {
		return list(sym("f"), there)
	}
	return d
}

func TestDrawnData(t *testing.T) {
	r := rand.New(rand.NewSource(7))
	seen := map[api.Errno]int{}
	for range 8000 {
		d := drawnForm(r)
		if want := samePlain(t, d); want.e != api.OK {
			t.Fatalf("%s: %d at %v", textOf(d), want.e, want.path)
		}
		for range 3 {
			d = flawed(r, d)
			seen[samePlain(t, d).e]++
		}
		seen[samePlain(t, drawnDatum(r, r.Intn(12))).e]++
	}
	for _, e := range []api.Errno{api.OK, api.ErrFormsForm, api.ErrFormsName, api.ErrFormsTwice} {
		if seen[e] < 100 {
			t.Errorf("error %d was drawn %d times", e, seen[e])
		}
	}
}

// spoilt is a form of which a term is changed in one field, or two.
func spoilt(r *rand.Rand, f api.Form) api.Form {
	f.Kids = slices.Clone(f.Kids)
	f.Names = slices.Clone(f.Names)
	if n := len(f.Kids); n > 0 && r.Intn(3) > 0 {
		i := r.Intn(n)
		f.Kids[i] = spoilt(r, f.Kids[i])
		return f
	}
	texts := []string{"x", "y", "if", "car", "", "1", "a b"}
	if n := len(f.Names); n > 0 && r.Intn(2) == 0 {
		f.Names[r.Intn(n)] = f.Names[r.Intn(n)]
		return f
	}
	switch r.Intn(10) {
	case 0:
		f.Kind = api.FormKind(r.Intn(17))
	case 1:
		f.Text = texts[r.Intn(len(texts))]
	case 2:
		f.Names = append(f.Names, texts[r.Intn(len(texts))])
	case 3:
		f.Names = f.Names[:len(f.Names)/2]
	case 4:
		f.Kids = append(f.Kids, one)
	case 5:
		f.Kids = f.Kids[:len(f.Kids)/2]
	case 6:
		f.Datum = drawnDatum(r, r.Intn(3))
	case 7:
		l := notData()
		f.Datum = l[r.Intn(len(l))]
	case 8:
		f = named(api.FormDefine, "x", f)
	default:
		if len(f.Names) > 0 {
			f.Names[r.Intn(len(f.Names))] = texts[r.Intn(len(texts))]
		}
	}
	return f
}

func TestDrawnForms(t *testing.T) {
	r := rand.New(rand.NewSource(77))
	seen := map[api.Errno]int{}
	for range 20000 {
		f := plainForm(drawnForm(r))
		for range 3 {
			f = spoilt(r, f)
			seen[formPlain(t, f)]++
		}
	}
	for _, e := range []api.Errno{api.OK, api.ErrFormsForm, api.ErrFormsName, api.ErrFormsTwice} {
		if seen[e] < 500 {
			t.Errorf("error %d was drawn %d times", e, seen[e])
		}
	}
}

// FuzzPlain draws on, if it is told to; else it goes through what it begins with.
func FuzzPlain(f *testing.F) {
	for _, r := range rows() {
		f.Add(r.s)
	}
	for _, s := range []string{"()", "(lambda (x x) 1)", "(if 1)", "(set! car 1)", "(begin (define x 1))", "(let (x) 1)", "(let ((x)) 1)", "(f . x)"} {
		f.Add(s)
	}
	f.Fuzz(func(t *testing.T, s string) {
		l, _, _ := read.Read(s)
		for _, d := range l {
			samePlain(t, d)
		}
	})
}
