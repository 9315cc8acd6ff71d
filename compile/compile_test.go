package compile_test

import (
	"fmt"
	"slices"
	"strconv"
	"strings"
	"testing"

	"dapple/api"
	"dapple/code"
	"dapple/compile"
	"dapple/forms"
	"dapple/names"
	"dapple/read"
	"dapple/words"
)

// opWords are what instructions are called, by their Ops from 1 on.
var opWords = strings.Fields("const var setvar global setglobal closure pop jump branch call tail return prim spawn join lock unlock yield")

// primWords are what primitives are called, by their numbers from 1 on; primTakes is how many arguments they take.
var (
	primWords = strings.Fields("cons car cdr set-car! set-cdr! box unbox set-box! cas add eq? null? pair? int? + - * quotient remainder < not error")
	primTakes = []int{2, 1, 1, 2, 2, 1, 1, 2, 3, 2, 2, 1, 1, 1, 2, 2, 2, 2, 2, 2, 1, 1}
)

// numberless are instructions that have no number.
var numberless = strings.Fields("pop return spawn join lock unlock yield")

// formsOf are those of a source.
func formsOf(t testing.TB, s string) []api.Form {
	t.Helper()
	data, e, at := read.Read(s)
	if e != api.OK {
		t.Fatalf("%.80q: %d at %d", s, e, at)
	}
	var l []api.Form
	for _, d := range data {
		f, e, path := forms.Of(d)
		if e != api.OK {
			t.Fatalf("%.80q: %d at %v", s, e, path)
		}
		l = append(l, f)
	}
	return l
}

// formOf is the one of a source.
func formOf(t testing.TB, s string) api.Form {
	t.Helper()
	l := formsOf(t, s)
	if len(l) != 1 {
		t.Fatalf("%q is %d forms", s, len(l))
	}
	return l[0]
}

// textOf is a source of forms.
func textOf(l ...api.Form) string {
	var b strings.Builder
	for _, f := range l {
		d, e := forms.Back(f)
		s, _ := read.Write(d)
		if e != api.OK {
			s = fmt.Sprintf("%+v", f)
		}
		b.WriteString(short(s) + " ")
	}
	return short(b.String())
}

// short is a text that can be told.
func short(s string) string {
	if len(s) > 300 {
		return s[:300] + ".."
	}
	return s
}

// table is one that has these names.
func table(t testing.TB, first ...string) *names.Table {
	t.Helper()
	n, e := names.New(first...)
	if e != api.OK {
		t.Fatal(e)
	}
	return n
}

// someNames are so many, all unlike.
func someNames(prefix string, n int) []string {
	var l []string
	for i := range n {
		l = append(l, prefix+strconv.Itoa(i))
	}
	return l
}

// constWord tells a constant, a symbol by its name.
func constWord(n *names.Table, w api.Word) string {
	tag, number, ok := words.Of(w)
	switch tag {
	case api.TagInt:
		return strconv.FormatInt(number, 10)
	case api.TagSymbol:
		s, ok := n.Name(int(number))
		if !ok {
			return fmt.Sprintf("symbol %d, which is none", number)
		}
		return "'" + s
	case api.TagPrim:
		return primWords[number-1]
	case api.TagNil, api.TagFalse, api.TagTrue, api.TagNone:
		return []string{"nil", "#f", "#t", "none"}[tag-api.TagNil]
	}
	return fmt.Sprintf("word %x, %v", uint64(w), ok)
}

// instrWord tells an instruction.
func instrWord(i api.Instr) string {
	if i.Op < 1 || int(i.Op) > len(opWords) {
		return fmt.Sprint(i)
	}
	s := opWords[i.Op-1]
	switch {
	case i.Op == api.OpPrim && i.A > 0 && i.A <= len(primWords):
		return s + " " + primWords[i.A-1]
	case slices.Contains(numberless, s) && i.A == 0:
		return s
	}
	return s + " " + strconv.Itoa(i.A)
}

// procWords tells a procedure: "2: var 0, return".
func procWords(p api.Proc) string {
	var l []string
	for _, i := range p.Code {
		l = append(l, instrWord(i))
	}
	return strconv.Itoa(p.Params) + ": " + strings.Join(l, ", ")
}

// listing tells code: constants, globals, procedures, each a line.
func listing(n *names.Table, c api.Code) string {
	var l []string
	for _, w := range c.Consts {
		l = append(l, constWord(n, w))
	}
	lines := []string{strings.Join(l, " "), strings.Join(c.Globals, " ")}
	for _, p := range c.Procs {
		lines = append(lines, procWords(p))
	}
	return strings.Join(lines, "\n")
}

// makes holds what a source becomes against constants, globals, and procedures (the first one without its Params, of which it has none).
func makes(t testing.TB, s, consts, globals, first string, procs ...string) {
	t.Helper()
	n := table(t)
	want := strings.Join(append([]string{consts, globals, "0: " + first}, procs...), "\n")
	if got := listing(n, compiled(t, n, formsOf(t, s)...)); got != want {
		t.Errorf("%s:\n%s\nnot\n%s", s, got, want)
	}
}

// compiled is the code of forms, which must be one.
func compiled(t testing.TB, n *names.Table, l ...api.Form) api.Code {
	t.Helper()
	c, e, at := compile.Compile(n, l...)
	if e != api.OK || at != 0 {
		t.Fatalf("%s: error %d at %d", textOf(l...), e, at)
	}
	if e, p, i := code.Check(c); e != api.OK {
		t.Fatalf("%s: code.Check: %d at %d, %d", textOf(l...), e, p, i)
	}
	return c
}

// refused holds what Compile answers against an error, and against what the table has then.
func refused(t testing.TB, n *names.Table, e api.Errno, at int, has string, l ...api.Form) {
	t.Helper()
	c, gotE, gotAt := compile.Compile(n, l...)
	if gotE != e || gotAt != at {
		t.Errorf("%s: error %d at %d, not %d at %d", textOf(l...), gotE, gotAt, e, at)
	}
	if len(c.Consts) != 0 || len(c.Procs) != 0 || len(c.Globals) != 0 {
		t.Errorf("%s: code comes with an error", textOf(l...))
	}
	if got := strings.Join(n.All(), " "); got != has {
		t.Errorf("%s: the table has %.200q, not %.200q", textOf(l...), got, has)
	}
}

func TestNumbersOfErrors(t *testing.T) {
	if api.ErrCompileMuch != 90 || api.ErrCompileGlobal != 91 {
		t.Error(api.ErrCompileMuch, api.ErrCompileGlobal)
	}
}

// TestExamples: the chapter's.
func TestExamples(t *testing.T) {
	makes(t, "(car (cons 1 2))", "1 2", "", "const 0, const 1, prim cons, prim car, return")
	makes(t, "(define f (lambda (x y) (if x (f y) y)))", "", "f", "closure 1, setglobal 0, return",
		"2: var 1, branch 5, global 0, var 0, tail 1, var 0, return")
	makes(t, "'(a . b)", "'a 'b", "", "const 0, const 1, prim cons, return")
	makes(t, "'(1 1)", "1 nil", "", "const 0, const 0, const 1, prim cons, prim cons, return")
	makes(t, "'()", "nil", "", "const 0, return")
	makes(t, "(let ((x 1)) (set! x 2) x)", "1 2", "", "closure 1, const 0, call 1, return",
		"1: const 1, setvar 0, pop, var 0, return")
	makes(t, "(while #f 1)", "#f 1 none", "", "const 0, branch 5, const 1, pop, jump 0, const 2, return")
	makes(t, "", "none", "", "const 0, return")
	var l []api.Form
	for _, s := range someNames("g", 65) {
		l = append(l, formOf(t, "(define "+s+" 1)"))
	}
	refused(t, table(t), api.ErrCompileGlobal, 64, "", l...)
	compiled(t, table(t), l[:64]...)
}

// TestQuotes: each kind of datum.
func TestQuotes(t *testing.T) {
	makes(t, "5", "5", "", "const 0, return")
	makes(t, "-576460752303423488", "-576460752303423488", "", "const 0, return")
	makes(t, "576460752303423487", "576460752303423487", "", "const 0, return")
	makes(t, "'0", "0", "", "const 0, return")
	makes(t, "#f", "#f", "", "const 0, return")
	makes(t, "#t", "#t", "", "const 0, return")
	makes(t, "'a", "'a", "", "const 0, return")
	makes(t, "'car", "'car", "", "const 0, return")
	makes(t, "'if", "'if", "", "const 0, return")
	makes(t, "''a", "'quote 'a nil", "", "const 0, const 1, const 2, prim cons, prim cons, return")
	makes(t, "'(a)", "'a nil", "", "const 0, const 1, prim cons, return")
	makes(t, "'(())", "nil", "", "const 0, const 0, prim cons, return")
	makes(t, "'(() ())", "nil", "", "const 0, const 0, const 0, prim cons, prim cons, return")
	makes(t, "'(a #f #t -7 . b)", "'a #f #t -7 'b", "", "const 0, const 1, const 2, const 3, const 4, prim cons, prim cons, prim cons, prim cons, return")
	makes(t, "'(1 (2 3) 4)", "1 2 3 nil 4", "",
		"const 0, const 1, const 2, const 3, prim cons, prim cons, const 4, const 3, prim cons, prim cons, prim cons, return")
	makes(t, "'((1 . 2) (3 . 4) . 5)", "1 2 3 4 5", "",
		"const 0, const 1, prim cons, const 2, const 3, prim cons, const 4, prim cons, prim cons, return")
	makes(t, "'((a) . a)", "'a nil", "", "const 0, const 1, prim cons, const 0, prim cons, return")
	makes(t, "(lambda () '(1 . 2))", "1 2", "", "closure 1, return", "0: const 0, const 1, prim cons, return")
	makes(t, "(lambda () '())", "nil", "", "closure 1, return", "0: const 0, return")
}

// TestNames: bound, primitives', others.
func TestNames(t *testing.T) {
	makes(t, "x", "", "x", "global 0, return")
	makes(t, "car", "car", "", "const 0, return")
	makes(t, "(lambda (x) x)", "", "", "closure 1, return", "1: var 0, return")
	makes(t, "(lambda (x) y)", "", "y", "closure 1, return", "1: global 0, return")
	makes(t, "(lambda (x) error)", "error", "", "closure 1, return", "1: const 0, return")
	makes(t, "(lambda (x y z) x y z)", "", "", "closure 1, return", "3: var 2, pop, var 1, pop, var 0, return")
	makes(t, "(lambda (x y) (lambda (z) x y z))", "", "", "closure 1, return", "2: closure 2, return", "1: var 2, pop, var 1, pop, var 0, return")
	makes(t, "(lambda (x) (lambda () (lambda () x)))", "", "", "closure 1, return", "1: closure 2, return", "0: closure 3, return", "0: var 0, return")
	makes(t, "(lambda (x y) (lambda (y x) x y))", "", "", "closure 1, return", "2: closure 2, return", "2: var 0, pop, var 1, return")
	makes(t, "(lambda (x y) (lambda (x) x y) x y)", "", "", "closure 1, return", "2: closure 2, pop, var 1, pop, var 0, return", "1: var 0, pop, var 1, return")
	makes(t, "(lambda (x) (lambda (x) (lambda (x) x)) x)", "", "", "closure 1, return", "1: closure 2, pop, var 0, return", "1: closure 3, return", "1: var 0, return")
	for i, s := range primWords {
		makes(t, s, s, "", "const 0, return")
		if prim, args, ok := forms.Prim(s); int(prim) != i+1 || args != primTakes[i] || !ok {
			t.Errorf("%s is %d of %d", s, prim, args)
		}
	}
	// A primitive's name is bound by nobody.
	n := table(t)
	bound := formOf(t, "(lambda (x) x)")
	bound.Names = []string{"car"}
	refused(t, n, api.ErrFormsName, 0, "", bound)
}

// TestScopeOfLets: a let's values are not within it.
func TestScopeOfLets(t *testing.T) {
	makes(t, "(let ((x x)) x)", "", "x", "closure 1, global 0, call 1, return", "1: var 0, return")
	makes(t, "(let ((x 1) (y x)) y)", "1", "x", "closure 1, const 0, global 0, call 2, return", "2: var 0, return")
	makes(t, "(lambda (x) (let ((x x)) x))", "", "", "closure 1, return", "1: closure 2, var 0, tail 1", "1: var 0, return")
	makes(t, "(lambda (x y) (let ((z x) (x y)) x y z))", "", "", "closure 1, return",
		"2: closure 2, var 1, var 0, tail 2", "2: var 0, pop, var 2, pop, var 1, return")
	makes(t, "(let ((x (let ((y x)) y))) y x)", "", "x y", "closure 1, closure 2, global 0, call 1, call 1, return", "1: global 1, pop, var 0, return", "1: var 0, return")
	makes(t, "(let ((x (lambda (x) x))) x)", "", "", "closure 1, closure 2, call 1, return", "1: var 0, return", "1: var 0, return")
	makes(t, "(let () x)", "", "x", "closure 1, call 0, return", "0: global 0, return")
	makes(t, "(lambda (x) (let () (let () x)))", "", "", "closure 1, return", "1: closure 2, tail 0", "0: closure 3, tail 0", "0: var 0, return")
	makes(t, "(begin (let ((x 1)) x) x)", "1", "x", "closure 1, const 0, call 1, pop, global 0, return", "1: var 0, return")
	makes(t, "((lambda (x) x) x)", "", "x", "closure 1, global 0, call 1, return", "1: var 0, return")
}

// TestSets: of bound names, and of others.
func TestSets(t *testing.T) {
	makes(t, "(define x 1)", "1", "x", "const 0, setglobal 0, return")
	makes(t, "(define x x)", "", "x", "global 0, setglobal 0, return")
	makes(t, "(set! x 1)", "1", "x", "const 0, setglobal 0, return")
	makes(t, "(set! x y)", "", "x y", "global 1, setglobal 0, return")
	makes(t, "(set! x (set! y z))", "", "x y z", "global 2, setglobal 1, setglobal 0, return")
	makes(t, "y (define x y)", "", "y x", "global 0, pop, global 0, setglobal 1, return")
	makes(t, "(lambda (x y) (set! x y))", "", "", "closure 1, return", "2: var 0, setvar 1, return")
	makes(t, "(lambda (x) (set! y x))", "", "y", "closure 1, return", "1: var 0, setglobal 0, return")
	makes(t, "(lambda (x y) (lambda (y) (set! x (set! y 1))))", "1", "", "closure 1, return", "2: closure 2, return", "1: const 0, setvar 0, setvar 2, return")
	makes(t, "(let ((x (set! x 1))) (set! x 2))", "1 2", "x", "closure 1, const 0, setglobal 0, call 1, return", "1: const 1, setvar 0, return")
	makes(t, "(define f (lambda (f) (set! f 1)))", "1", "f", "closure 1, setglobal 0, return", "1: const 0, setvar 0, return")
}

// TestForms: each kind, not in tail place.
func TestForms(t *testing.T) {
	makes(t, "(if 1 2 3)", "1 2 3", "", "const 0, branch 4, const 1, jump 5, const 2, return")
	makes(t, "(if 1 2)", "1 2 none", "", "const 0, branch 4, const 1, jump 5, const 2, return")
	makes(t, "(if (if 1 2 3) (if 4 5) 6)", "1 2 3 4 5 none 6", "",
		"const 0, branch 4, const 1, jump 5, const 2, branch 12, const 3, branch 10, const 4, jump 11, const 5, jump 13, const 6, return")
	makes(t, "(lambda () 1)", "1", "", "closure 1, return", "0: const 0, return")
	makes(t, "(begin 1)", "1", "", "const 0, return")
	makes(t, "(begin 1 2 3)", "1 2 3", "", "const 0, pop, const 1, pop, const 2, return")
	makes(t, "(begin (begin 1 2) (begin 3 4))", "1 2 3 4", "", "const 0, pop, const 1, pop, const 2, pop, const 3, return")
	makes(t, "1 2 3", "1 2 3", "", "const 0, pop, const 1, pop, const 2, return")
	makes(t, "(let ((x 1) (y 2)) 3 4)", "1 2 3 4", "", "closure 1, const 0, const 1, call 2, return", "2: const 2, pop, const 3, return")
	makes(t, "(while x)", "none", "x", "global 0, branch 3, jump 0, const 0, return")
	makes(t, "(while x 1 2)", "1 2 none", "x", "global 0, branch 7, const 0, pop, const 1, pop, jump 0, const 2, return")
	makes(t, "1 (while (while x y) z)", "1 none", "x y z",
		"const 0, pop, global 0, branch 7, global 1, pop, jump 2, const 1, branch 12, global 2, pop, jump 2, const 1, return")
	makes(t, "(f)", "", "f", "global 0, call 0, return")
	makes(t, "(f 1 2 3)", "1 2 3", "f", "global 0, const 0, const 1, const 2, call 3, return")
	makes(t, "((f 1) (g))", "1", "f g", "global 0, const 0, call 1, global 1, call 0, call 1, return")
	makes(t, "(f car)", "car", "f", "global 0, const 0, call 1, return")
	makes(t, "((if x car cdr) 1 2 3)", "car cdr 1 2 3", "x", "global 0, branch 4, const 0, jump 5, const 1, const 2, const 3, const 4, call 3, return")
	makes(t, "('car 1 2 3)", "'car 1 2 3", "", "const 0, const 1, const 2, const 3, call 3, return")
	makes(t, "((begin car) 1 2)", "car 1 2", "", "const 0, const 1, const 2, call 2, return")
	makes(t, "(1)", "1", "", "const 0, call 0, return")
	makes(t, "(spawn f)", "", "f", "global 0, spawn, return")
	makes(t, "(join 1)", "1", "", "const 0, join, return")
	makes(t, "(lock 1)", "1", "", "const 0, lock, return")
	makes(t, "(unlock 1)", "1", "", "const 0, unlock, return")
	makes(t, "(yield)", "", "", "yield, return")
	for i, s := range primWords {
		args := strings.Fields("1 2 3")[:primTakes[i]]
		pushes := []string{"const 0", "const 1", "const 2"}[:primTakes[i]]
		makes(t, "("+s+" "+strings.Join(args, " ")+")", strings.Join(args, " "), "", strings.Join(pushes, ", ")+", prim "+s+", return")
	}
}

// TestTailPlace: what ends a procedure, of each kind, as the last form of a lambda, a let, a begin, an if.
func TestTailPlace(t *testing.T) {
	for _, c := range []struct{ s, consts, globals, instrs string }{
		{"1", "1", "", "const 0, return"},
		{"f", "", "f", "global 0, return"},
		{"x", "", "", "var 0, return"},
		{"'(1)", "1 nil", "", "const 0, const 1, prim cons, return"},
		{"(set! x 1)", "1", "", "const 0, setvar 0, return"},
		{"(set! f 1)", "1", "f", "const 0, setglobal 0, return"},
		{"(while 1 2)", "1 2 none", "", "const 0, branch 5, const 1, pop, jump 0, const 2, return"},
		{"(while 1 (f))", "1 none", "f", "const 0, branch 6, global 0, call 0, pop, jump 0, const 1, return"},
		{"(f)", "", "f", "global 0, tail 0"},
		{"(f (f 1))", "1", "f", "global 0, global 0, const 0, call 1, tail 1"},
		{"((f) 1 2)", "1 2", "f", "global 0, call 0, const 0, const 1, tail 2"},
		{"(car (f))", "", "f", "global 0, call 0, prim car, return"},
		{"(spawn (f))", "", "f", "global 0, call 0, spawn, return"},
		{"(join (f))", "", "f", "global 0, call 0, join, return"},
		{"(lock (f))", "", "f", "global 0, call 0, lock, return"},
		{"(unlock (f))", "", "f", "global 0, call 0, unlock, return"},
		{"(yield)", "", "", "yield, return"},
		{"(begin (f))", "", "f", "global 0, tail 0"},
		{"(begin (f) (f))", "", "f", "global 0, call 0, pop, global 0, tail 0"},
		{"(begin (f) 1)", "1", "f", "global 0, call 0, pop, const 0, return"},
		{"(begin 1 (begin 2 (f)))", "1 2", "f", "const 0, pop, const 1, pop, global 0, tail 0"},
		{"(begin (begin (f)) (f))", "", "f", "global 0, call 0, pop, global 0, tail 0"},
		{"(if 1 2 3)", "1 2 3", "", "const 0, branch 4, const 1, return, const 2, return"},
		{"(if 1 2)", "1 2 none", "", "const 0, branch 4, const 1, return, const 2, return"},
		{"(if 1 (f))", "1 none", "f", "const 0, branch 4, global 0, tail 0, const 1, return"},
		{"(if (f) (f) (f 1))", "1", "f", "global 0, call 0, branch 5, global 0, tail 0, global 0, const 0, tail 1"},
		{"(if (if 1 2 3) 4 5)", "1 2 3 4 5", "", "const 0, branch 4, const 1, jump 5, const 2, branch 8, const 3, return, const 4, return"},
		{"(if 1 (if 2 3 (f)) (begin 4 (if 5 (f) 6)))", "1 2 3 4 5 6", "f",
			"const 0, branch 8, const 1, branch 6, const 2, return, global 0, tail 0, const 3, pop, const 4, branch 14, global 0, tail 0, const 5, return"},
		{"(begin (if 1 (f) 2) 3)", "1 2 3", "f", "const 0, branch 5, global 0, call 0, jump 6, const 1, pop, const 2, return"},
		{"(if 1 (car (f)) (while 2))", "1 2 none", "f", "const 0, branch 6, global 0, call 0, prim car, return, const 1, branch 9, jump 6, const 2, return"},
		{"(set! x (if 1 (f) 2))", "1 2", "f", "const 0, branch 5, global 0, call 0, jump 6, const 1, setvar 0, return"},
		{"(f (begin 1 (f)))", "1", "f", "global 0, const 0, pop, global 0, call 0, tail 1"},
	} {
		proc := "1: " + c.instrs
		makes(t, "(lambda (x) "+c.s+")", c.consts, c.globals, "closure 1, return", proc)
		makes(t, "(yield) (lambda (x) "+c.s+")", c.consts, c.globals, "yield, pop, closure 1, return", proc)
		makes(t, "(let ((x (yield))) "+c.s+")", c.consts, c.globals, "closure 1, yield, call 1, return", proc)
		makes(t, "(let ((x (yield))) (yield) "+c.s+")", c.consts, c.globals, "closure 1, yield, call 1, return", "1: yield, pop, "+moved(c.instrs, 2))
		makes(t, "(lambda (x) (begin (yield) "+c.s+"))", c.consts, c.globals, "closure 1, return", "1: yield, pop, "+moved(c.instrs, 2))
		makes(t, "(lambda (x) (if (yield) (yield) "+c.s+"))", c.consts, c.globals, "closure 1, return", "1: yield, branch 4, yield, return, "+moved(c.instrs, 4))
		count := len(strings.Split(c.instrs, ", "))
		makes(t, "(lambda (x) (if (yield) "+c.s+" (yield)))", c.consts, c.globals, "closure 1, return",
			"1: yield, branch "+strconv.Itoa(count+2)+", "+moved(c.instrs, 2)+", yield, return")
	}
	makes(t, "(lambda () (lambda () (f)))", "", "f", "closure 1, return", "0: closure 2, return", "0: global 0, tail 0")
	makes(t, "(lambda () (let ((x (f))) (f)))", "", "f", "closure 1, return", "0: closure 2, global 0, call 0, tail 1", "1: global 0, tail 0")
	makes(t, "(lambda () (let () 1) 2)", "1 2", "", "closure 1, return", "0: closure 2, call 0, pop, const 1, return", "0: const 0, return")
}

// moved are instructions, so many places farther behind.
func moved(instrs string, by int) string {
	l := strings.Split(instrs, ", ")
	for i, s := range l {
		word, number, _ := strings.Cut(s, " ")
		if n, err := strconv.Atoi(number); err == nil && (word == "jump" || word == "branch") {
			l[i] = word + " " + strconv.Itoa(n+by)
		}
	}
	return strings.Join(l, ", ")
}

// TestNothingIsInTailPlaceOutside: of procedure 0 nothing is, whatever it is.
func TestNothingIsInTailPlaceOutside(t *testing.T) {
	makes(t, "(f)", "", "f", "global 0, call 0, return")
	makes(t, "(f) (f)", "", "f", "global 0, call 0, pop, global 0, call 0, return")
	makes(t, "(begin 1 (f))", "1", "f", "const 0, pop, global 0, call 0, return")
	makes(t, "(if 1 (f) (g))", "1", "f g", "const 0, branch 5, global 0, call 0, jump 7, global 1, call 0, return")
	makes(t, "(if 1 (f))", "1 none", "f", "const 0, branch 5, global 0, call 0, jump 6, const 1, return")
	makes(t, "(let ((x 1)) x)", "1", "", "closure 1, const 0, call 1, return", "1: var 0, return")
	makes(t, "(define x (let () 1))", "1", "x", "closure 1, call 0, setglobal 0, return", "0: const 0, return")
	makes(t, "(define x (f))", "", "x f", "global 1, call 0, setglobal 0, return")
}
