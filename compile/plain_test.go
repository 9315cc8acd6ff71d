package compile_test

import (
	"iter"
	"math/rand"
	"slices"
	"strconv"
	"strings"
	"testing"

	"dapple/api"
	"dapple/code"
	"dapple/compile"
	"dapple/forms"
	"dapple/read"
)

// The chapter once more, by other means: numbers are given by walks of their own, each over the forms as they are, ahead of
// any instruction; instructions name places by labels, which become numbers at the end; how deep a stack gets is reckoned from the forms.

// step is an instruction, with what it names still unnumbered.
type step struct {
	op    string
	word  string // a constant's
	name  string // a global's
	proc  string // a procedure's path
	n     int
	to    int // a label
	label int // the label of the place itself, if it is no instruction
}

// plain is what one compilation knows.
type plain struct {
	procs  []string // paths, by numbers
	params []int
	steps  [][]step
	consts []string // as constWord tells them
	global []string
	labels int
	deep   bool // something is more than a procedure may have
}

// once is a list with each where it stands first.
func once(l []string) []string {
	var out []string
	known := map[string]bool{}
	for _, s := range l {
		if !known[s] {
			known[s] = true
			out = append(out, s)
		}
	}
	return out
}

// datumWords are the words that lay a datum, as they are pushed.
func datumWords(d api.Datum) []string {
	switch d.Kind {
	case api.DatumInt:
		return []string{strconv.FormatInt(d.N, 10)}
	case api.DatumSymbol:
		return []string{"'" + d.Text}
	case api.DatumFalse:
		return []string{"#f"}
	case api.DatumTrue:
		return []string{"#t"}
	}
	var l []string
	for _, kid := range d.Kids {
		l = append(l, datumWords(kid)...)
	}
	if !d.Dot {
		l = append(l, "nil")
	}
	return l
}

// isPrimCall tells whether a form is a primitive's call.
func isPrimCall(f api.Form) bool {
	return f.Kind == api.FormCall && f.Kids[0].Kind == api.FormName && slices.Contains(primWords, f.Kids[0].Text)
}

// constsOf are the constants of a form, as they are met.
func constsOf(f api.Form) []string {
	var l []string
	switch {
	case f.Kind == api.FormQuote:
		return datumWords(f.Datum)
	case f.Kind == api.FormName && slices.Contains(primWords, f.Text):
		return []string{f.Text}
	}
	for i, kid := range f.Kids {
		if i > 0 || !isPrimCall(f) {
			l = append(l, constsOf(kid)...)
		}
	}
	if f.Kind == api.FormWhile || f.Kind == api.FormIf && len(f.Kids) == 2 {
		l = append(l, "none")
	}
	return l
}

// symbolsOf are the symbols that are quoted in a form, in its order.
func symbolsOf(f api.Form) []string {
	var l []string
	for _, s := range constsOf(f) {
		if strings.HasPrefix(s, "'") {
			l = append(l, s[1:])
		}
	}
	return l
}

// bodyOf are where the forms begin among a form's Kids that stand in a procedure of its own.
func bodyOf(f api.Form) int {
	switch f.Kind {
	case api.FormLambda:
		return 0
	case api.FormLet:
		return len(f.Names)
	}
	return len(f.Kids)
}

// findProcs numbers the procedures of a form that stands at a path.
func (p *plain) findProcs(path string, f api.Form) {
	if f.Kind == api.FormLambda || f.Kind == api.FormLet {
		p.procs = append(p.procs, path)
		p.params = append(p.params, len(f.Names))
	}
	for i, kid := range f.Kids {
		p.findProcs(path+"."+strconv.Itoa(i), kid)
	}
}

// height is how many words the stack has at most while a form is worked out, if it has so many ahead.
func height(f api.Form, ahead int) int {
	most := ahead + 1
	raise := func(n int) { most = max(most, n) }
	if f.Kind == api.FormQuote {
		return heightOfDatum(f.Datum, ahead)
	}
	for i, kid := range f.Kids[:bodyOf(f)] {
		switch {
		case f.Kind == api.FormLet:
			raise(height(kid, ahead+1+i))
		case isPrimCall(f) && i > 0:
			raise(height(kid, ahead+i-1))
		case f.Kind == api.FormCall && !isPrimCall(f):
			raise(height(kid, ahead+i))
		case !isPrimCall(f):
			raise(height(kid, ahead))
		}
	}
	return most
}

func heightOfDatum(d api.Datum, ahead int) int {
	most := ahead + 1
	for i, kid := range d.Kids {
		most = max(most, heightOfDatum(kid, ahead+i))
	}
	if d.Kind == api.DatumList && !d.Dot {
		most = max(most, ahead+len(d.Kids)+1)
	}
	return most
}

// names are those that are bound, the nearest one last.
type bound []string

// up is how many places up a name is bound; -1, if it is not.
func (b bound) up(name string) int {
	for i := len(b) - 1; i >= 0; i-- {
		if b[i] == name {
			return len(b) - 1 - i
		}
	}
	return -1
}

func (p *plain) newLabel() int {
	p.labels++
	return p.labels
}

// body writes the forms of a procedure.
func (p *plain) body(path string, first int, l []api.Form, b bound, isOutside bool) []step {
	var out []step
	for i, f := range l {
		if height(f, 0) > 255 {
			p.deep = true
		}
		isLast := i == len(l)-1
		out = append(out, p.form(path+"."+strconv.Itoa(first+i), f, b, isLast && !isOutside)...)
		if !isLast {
			out = append(out, step{op: "pop"})
		}
	}
	if isOutside {
		out = append(out, step{op: "return"})
	}
	return out
}

// form writes one form.
func (p *plain) form(path string, f api.Form, b bound, tail bool) []step {
	kid := func(i int, tail bool) []step { return p.form(path+"."+strconv.Itoa(i), f.Kids[i], b, tail) }
	var kids []step
	if f.Kind != api.FormIf && f.Kind != api.FormBegin && f.Kind != api.FormWhile {
		for i := range f.Kids[:bodyOf(f)] {
			if i > 0 || !isPrimCall(f) {
				kids = append(kids, kid(i, false)...)
			}
		}
	}
	ended := func(l []step, more ...step) []step {
		l = append(l, more...)
		if tail {
			l = append(l, step{op: "return"})
		}
		return l
	}
	call := func(l []step, args int) []step {
		if args > 256 {
			p.deep = true
		}
		if tail {
			return append(l, step{op: "tail", n: args})
		}
		return append(l, step{op: "call", n: args})
	}
	place := func(op string) step {
		up := b.up(f.Text)
		if up < 0 {
			return step{op: strings.Replace(op, "var", "global", 1), name: f.Text}
		}
		if up > 256 {
			p.deep = true
		}
		return step{op: op, n: up}
	}
	inner := func() {
		number := slices.Index(p.procs, path)
		p.steps[number] = p.body(path, bodyOf(f), f.Kids[bodyOf(f):], slices.Concat(b, f.Names), false)
	}
	switch f.Kind {
	case api.FormQuote:
		return ended(p.datum(f.Datum))
	case api.FormName:
		if slices.Contains(primWords, f.Text) {
			return ended(nil, step{op: "const", word: f.Text})
		}
		return ended(nil, place("var"))
	case api.FormIf:
		other, behind := p.newLabel(), p.newLabel()
		out := append(kid(0, false), step{op: "branch", to: other})
		out = append(out, kid(1, tail)...)
		if !tail {
			out = append(out, step{op: "jump", to: behind})
		}
		out = append(out, step{label: other})
		if len(f.Kids) == 3 {
			out = append(out, kid(2, tail)...)
		} else {
			out = append(out, ended(nil, step{op: "const", word: "none"})...)
		}
		return append(out, step{label: behind})
	case api.FormLambda:
		inner()
		return ended(nil, step{op: "closure", proc: path})
	case api.FormDefine, api.FormSet:
		return ended(kids, place("setvar"))
	case api.FormBegin:
		var out []step
		for i := range f.Kids {
			if i > 0 {
				out = append(out, step{op: "pop"})
			}
			out = append(out, kid(i, tail && i == len(f.Kids)-1)...)
		}
		return out
	case api.FormLet:
		inner()
		return call(append([]step{{op: "closure", proc: path}}, kids...), len(f.Names))
	case api.FormWhile:
		from, behind := p.newLabel(), p.newLabel()
		out := append([]step{{label: from}}, kid(0, false)...)
		out = append(out, step{op: "branch", to: behind})
		for i := 1; i < len(f.Kids); i++ {
			out = append(append(out, kid(i, false)...), step{op: "pop"})
		}
		return ended(out, step{op: "jump", to: from}, step{label: behind}, step{op: "const", word: "none"})
	case api.FormCall:
		if isPrimCall(f) {
			return ended(kids, step{op: "prim", n: slices.Index(primWords, f.Kids[0].Text) + 1})
		}
		return call(kids, len(f.Kids)-1)
	case api.FormSpawn:
		return ended(kids, step{op: "spawn"})
	case api.FormJoin:
		return ended(kids, step{op: "join"})
	case api.FormLock:
		return ended(kids, step{op: "lock"})
	case api.FormUnlock:
		return ended(kids, step{op: "unlock"})
	}
	return ended(nil, step{op: "yield"})
}

func (p *plain) datum(d api.Datum) []step {
	if d.Kind != api.DatumList {
		return []step{{op: "const", word: datumWords(d)[0]}}
	}
	var out []step
	for _, kid := range d.Kids {
		out = append(out, p.datum(kid)...)
	}
	if !d.Dot {
		out = append(out, step{op: "const", word: "nil"})
	}
	for i := range d.Kids {
		if i > 0 || !d.Dot {
			out = append(out, step{op: "prim", n: 1})
		}
	}
	return out
}

// instrs are steps with all numbers.
func (p *plain) instrs(l []step) []api.Instr {
	places := map[int]int{}
	n := 0
	for _, s := range l {
		if s.op == "" {
			places[s.label] = n
			continue
		}
		n++
	}
	var out []api.Instr
	for _, s := range l {
		i := api.Instr{Op: api.Op(slices.Index(opWords, s.op) + 1), A: s.n}
		switch {
		case s.op == "":
			continue
		case s.word != "":
			i.A = slices.Index(p.consts, s.word)
		case s.name != "":
			i.A = slices.Index(p.global, s.name)
		case s.proc != "":
			i.A = slices.Index(p.procs, s.proc)
		case s.to != 0:
			i.A = places[s.to]
		}
		out = append(out, i)
	}
	return out
}

// plainOne is what forms that may be become, by themselves; the constants as they are told. Too much of anything: an error.
func plainOne(l []api.Form) ([]string, []string, []api.Proc, api.Errno) {
	p := &plain{procs: []string{""}, params: []int{0}}
	for i, f := range l {
		p.findProcs("."+strconv.Itoa(i), f)
		p.consts = append(p.consts, constsOf(f)...)
		p.global = append(p.global, forms.Names(f)...)
	}
	p.consts, p.global = once(p.consts), once(p.global)
	p.steps = make([][]step, len(p.procs))
	p.steps[0] = p.body("", 0, l, nil, true)
	if len(l) == 0 {
		p.consts = []string{"none"}
		p.steps[0] = []step{{op: "const", word: "none"}, {op: "return"}}
	}
	if len(p.global) > 64 {
		return nil, nil, nil, api.ErrCompileGlobal
	}
	if p.deep || len(p.procs) > 256 || len(p.consts) > 1024 {
		return nil, nil, nil, api.ErrCompileMuch
	}
	var procs []api.Proc
	for i, steps := range p.steps {
		code := p.instrs(steps)
		if len(code) > 4096 || p.params[i] > 256 {
			return nil, nil, nil, api.ErrCompileMuch
		}
		procs = append(procs, api.Proc{Params: p.params[i], Code: code})
	}
	return p.consts, p.global, procs, api.OK
}

// plainAnswer is what Compile answers, and what a table has behind it that had some names.
type plainAnswer struct {
	listing string
	e       api.Errno
	at      int
	has     []string
}

// plainCompile is it, for forms one behind the other; of those by themselves the first one that can't be compiled is told.
func plainCompile(has []string, l []api.Form) plainAnswer {
	has = slices.Clone(has)
	for i, f := range l {
		if e := forms.Check(f); e != api.OK {
			return plainAnswer{e: e, at: i, has: has}
		}
		for _, s := range symbolsOf(f) {
			if slices.Contains(has, s) {
				continue
			}
			if len(has) == 4096 {
				return plainAnswer{e: api.ErrNamesMuch, at: i, has: has}
			}
			has = append(has, s)
		}
		if _, _, _, e := plainOne(l[:i+1]); e != api.OK {
			return plainAnswer{e: e, at: i, has: has}
		}
	}
	consts, globals, procs, _ := plainOne(l)
	lines := []string{strings.Join(consts, " "), strings.Join(globals, " ")}
	for _, p := range procs {
		lines = append(lines, procWords(p))
	}
	return plainAnswer{listing: strings.Join(lines, "\n"), has: has}
}

// samePlain holds what Compile makes of forms against the chapter.
func samePlain(t testing.TB, first []string, l ...api.Form) api.Errno {
	t.Helper()
	want := plainCompile(first, l)
	n := table(t, first...)
	c, e, at := compile.Compile(n, l...)
	if e != want.e || at != want.at || !slices.Equal(n.All(), want.has) {
		t.Fatalf("%s: error %d at %d, not %d at %d; %.200q, not %.200q", textOf(l...), e, at, want.e, want.at, n.All(), want.has)
	}
	if e != api.OK {
		if len(c.Consts)+len(c.Procs)+len(c.Globals) > 0 {
			t.Fatalf("%s: code comes with error %d", textOf(l...), e)
		}
		return e
	}
	if got := listing(n, c); got != want.listing {
		t.Fatalf("%s:\n%s\nnot\n%s", textOf(l...), got, want.listing)
	}
	if e, proc, place := code.Check(c); e != api.OK {
		t.Fatalf("%s: code.Check: %d at %d, %d", textOf(l...), e, proc, place)
	}
	return e
}

// leaves are small forms; ones, twos, threes have so many holes for others.
var (
	leaves = []string{"1", "x", "y", "'a", "car"}
	ones   = []string{"(begin %)", "(lambda () %)", "(lambda (x) %)", "(set! x %)", "(%)", "(car %)", "(let () %)", "(while %)", "(join %)"}
	twos   = []string{"(if % %)", "(begin % %)", "(while % %)", "(let ((x %)) %)", "(lambda (x y) % %)", "(cons % %)", "(% %)"}
	threes = []string{"(if % % %)", "(let ((x %) (y %)) %)", "(% % %)"}
)

// filled is a text with others in its holes.
func filled(s string, l ...string) string {
	for _, one := range l {
		s = strings.Replace(s, "%", one, 1)
	}
	return s
}

// allForms are the texts of all forms of a size.
func allForms(size int) iter.Seq[string] {
	return func(yield func(string) bool) {
		if size == 1 {
			for _, s := range leaves {
				if !yield(s) {
					return
				}
			}
			return
		}
		for count, shapes := range [][]string{1: ones, 2: twos, 3: threes} {
			for l := range allRows(count, size-1) {
				for _, s := range shapes {
					if !yield(filled(s, l...)) {
						return
					}
				}
			}
		}
	}
}

// allRows are those of so many forms, that have a size together.
func allRows(count, size int) iter.Seq[[]string] {
	return func(yield func([]string) bool) {
		if count == 0 {
			if size == 0 {
				yield(nil)
			}
			return
		}
		for first := 1; first <= size-count+1; first++ {
			for s := range allForms(first) {
				for rest := range allRows(count-1, size-first) {
					if !yield(append([]string{s}, rest...)) {
						return
					}
				}
			}
		}
	}
}

// formsIn are those of a source, if all its data are forms.
func formsIn(s string) ([]api.Form, bool) {
	data, e, _ := read.Read(s)
	if e != api.OK {
		return nil, false
	}
	var l []api.Form
	for _, d := range data {
		f, e, _ := forms.Of(d)
		if e != api.OK {
			return nil, false
		}
		l = append(l, f)
	}
	return l, true
}

// TestAllSmallForms: each up to a size, outside and within a lambda; and two of them, one behind the other.
func TestAllSmallForms(t *testing.T) {
	count := 0
	for size := 1; size <= 4; size++ {
		for s := range allForms(size) {
			l, ok := formsIn(s)
			if !ok { // a primitive's call with another number of arguments
				continue
			}
			count++
			f := l[0]
			samePlain(t, nil, f)
			samePlain(t, []string{"b", "a"}, api.Form{Kind: api.FormLambda, Names: []string{"y"}, Kids: []api.Form{f}})
			if size <= 3 {
				samePlain(t, nil, api.Form{Kind: api.FormDefine, Text: "x", Kids: []api.Form{f}}, f)
			}
		}
	}
	for size := 2; size <= 3; size++ {
		for row := range allRows(2, size) {
			if l, ok := formsIn(strings.Join(row, " ")); ok {
				count++
				samePlain(t, nil, l...)
			}
		}
	}
	if count < 8000 {
		t.Errorf("only %d", count)
	}
}

// drawnName is a variable's name, out of a few.
func drawnName(r *rand.Rand) string { return strings.Fields("x y z a b f g")[r.Intn(7)] }

// drawnNames are some, all unlike.
func drawnNames(r *rand.Rand, most int) []string {
	var l []string
	for _, i := range r.Perm(7)[:r.Intn(most+1)] {
		l = append(l, strings.Fields("x y z a b f g")[i])
	}
	return l
}

// drawnDatum is one to be quoted.
func drawnDatum(r *rand.Rand, depth int) api.Datum {
	if depth > 0 && r.Intn(2) == 0 {
		d := api.Datum{Kind: api.DatumList}
		for range r.Intn(4) {
			d.Kids = append(d.Kids, drawnDatum(r, depth-1))
		}
		n := len(d.Kids)
		d.Dot = n > 1 && d.Kids[n-1].Kind != api.DatumList && r.Intn(2) == 0
		return d
	}
	switch r.Intn(6) {
	case 0:
		return api.Datum{Kind: api.DatumFalse}
	case 1:
		return api.Datum{Kind: api.DatumTrue}
	case 2, 3:
		return api.Datum{Kind: api.DatumInt, N: []int64{0, 1, 2, -1, 7, 1<<59 - 1, -1 << 59}[r.Intn(7)]}
	}
	return api.Datum{Kind: api.DatumSymbol, Text: strings.Fields("a b c x car if quote p q")[r.Intn(9)]}
}

// drawnForm is one that is no define.
func drawnForm(r *rand.Rand, depth int) api.Form {
	if depth <= 0 {
		return drawnLeaf(r)
	}
	kids := func(least, more int) []api.Form {
		var l []api.Form
		for range least + r.Intn(more+1) {
			l = append(l, drawnForm(r, depth-1-r.Intn(2)))
		}
		return l
	}
	one := func(k api.FormKind, s string, least, more int) api.Form {
		return api.Form{Kind: k, Text: s, Kids: kids(least, more)}
	}
	switch r.Intn(13) {
	case 0, 1:
		return one(api.FormIf, "", 2, 1)
	case 2, 3:
		f := one(api.FormLambda, "", 1, 2)
		f.Names = drawnNames(r, 3)
		return f
	case 4, 5:
		l := drawnNames(r, 3)
		f := one(api.FormLet, "", 1+len(l), 2)
		f.Names = l
		return f
	case 6:
		return one(api.FormSet, drawnName(r), 1, 0)
	case 7:
		return one(api.FormBegin, "", 1, 3)
	case 8:
		return one(api.FormWhile, "", 1, 3)
	case 9:
		i := r.Intn(len(primWords))
		f := one(api.FormCall, "", primTakes[i], 0)
		f.Kids = append([]api.Form{{Kind: api.FormName, Text: primWords[i]}}, f.Kids...)
		return f
	case 10:
		return one([]api.FormKind{api.FormSpawn, api.FormJoin, api.FormLock, api.FormUnlock}[r.Intn(4)], "", 1, 0)
	}
	f := one(api.FormCall, "", 1, 3)
	if head := f.Kids[0]; head.Kind == api.FormName && slices.Contains(primWords, head.Text) {
		f.Kids[0].Text = drawnName(r)
	}
	return f
}

func drawnLeaf(r *rand.Rand) api.Form {
	switch r.Intn(8) {
	case 0:
		return api.Form{Kind: api.FormYield}
	case 1:
		return api.Form{Kind: api.FormName, Text: primWords[r.Intn(len(primWords))]}
	case 2, 3, 4:
		return api.Form{Kind: api.FormQuote, Datum: drawnDatum(r, r.Intn(3))}
	}
	return api.Form{Kind: api.FormName, Text: drawnName(r)}
}

// drawnForms are some, one behind the other; defines may be among them.
func drawnForms(r *rand.Rand, most, depth int) []api.Form {
	var l []api.Form
	for range r.Intn(most + 1) {
		f := drawnForm(r, r.Intn(depth+1))
		if r.Intn(4) == 0 {
			f = api.Form{Kind: api.FormDefine, Text: drawnName(r), Kids: []api.Form{f}}
		}
		l = append(l, f)
	}
	return l
}

func TestDrawnForms(t *testing.T) {
	r := rand.New(rand.NewSource(9))
	long := 0
	for range 3000 {
		l := drawnForms(r, 5, 5)
		if e := samePlain(t, drawnNames(r, 4), l...); e != api.OK {
			t.Fatalf("%s: %d", textOf(l...), e)
		}
		if len(textOf(l...)) > 100 {
			long++
		}
	}
	if long < 500 {
		t.Errorf("only %d are long", long)
	}
}

// flawed is forms with something in the place of one of them that may be wrong, or too much with the others.
func flawed(t testing.TB, r *rand.Rand, l []api.Form) []api.Form {
	if len(l) == 0 {
		return l
	}
	l = slices.Clone(l)
	at := r.Intn(len(l))
	texts := []string{
		"'(new " + many(200+r.Intn(100), "1") + "other)",
		"(f " + many(200+r.Intn(100), "'one") + ")",
		"(lambda (" + strings.Join(someNames("p", 230+r.Intn(50)), " ") + ") (lambda (q r s) p" + strconv.Itoa(r.Intn(10)) + "))",
		"(begin " + strings.Join(someNames("g", 50+r.Intn(20)), " ") + ")",
		"(begin 'm " + strings.Join(someNames("h", 55+r.Intn(12)), " ") + " " + many(r.Intn(300), "1") + ")",
		"(lambda () " + many(2000+r.Intn(100), "1") + ")",
		"(begin " + many(2000+r.Intn(60), "(yield)") + ")",
		"(begin " + many(220+r.Intn(40), "(lambda () 1)") + ")",
		"(begin " + numbers(0, 990+r.Intn(50)) + ")",
	}
	switch f := l[at]; r.Intn(4) {
	case 0:
		l[at] = api.Form{Kind: api.FormBegin, Kids: []api.Form{f, {}}}
	case 1:
		l[at] = api.Form{Kind: api.FormLambda, Names: []string{"x", "y", []string{"x", "car"}[r.Intn(2)]}, Kids: []api.Form{f}}
	default:
		g := formOf(t, texts[r.Intn(len(texts))])
		l[at] = g
		if f.Kind != api.FormDefine && r.Intn(2) == 0 {
			l[at] = api.Form{Kind: api.FormBegin, Kids: []api.Form{f, g, f}}
		}
	}
	return l
}

func TestDrawnFaults(t *testing.T) {
	r := rand.New(rand.NewSource(99))
	full := someNames("s", 4096)
	seen := map[api.Errno]int{}
	for range 700 {
		l := drawnForms(r, 4, 3)
		for range 1 + r.Intn(2) {
			l = flawed(t, r, l)
		}
		first := drawnNames(r, 3)
		if r.Intn(3) == 0 {
			first = append(slices.Clone(full[:4096-r.Intn(4)-len(first)]), first...)
		}
		seen[samePlain(t, first, l...)]++
	}
	for _, e := range []api.Errno{api.OK, api.ErrFormsForm, api.ErrFormsName, api.ErrFormsTwice, api.ErrNamesMuch, api.ErrCompileGlobal, api.ErrCompileMuch} {
		if seen[e] < 10 {
			t.Errorf("error %d was drawn %d times", e, seen[e])
		}
	}
}

// FuzzPlain draws on, if it is told to; else it goes through what it begins with.
func FuzzPlain(f *testing.F) {
	for s := range allForms(2) {
		f.Add(s)
	}
	for _, s := range []string{"", "(define f (lambda (x y) (if x (f y) y)))", "(let ((x 1)) (set! x 2) x)", "'((a . b) () (c d))", "(while #f 1)", "(lambda (x) (let ((y x)) (begin (spawn x) (yield))))"} {
		f.Add(s)
	}
	f.Fuzz(func(t *testing.T, s string) {
		if l, ok := formsIn(s); ok && len(l) < 100 {
			samePlain(t, []string{"b"}, l...)
		}
	})
}
