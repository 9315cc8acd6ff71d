package compile_test

import (
	"strings"
	"testing"

	"dapple/api"
)

// TestOrderOfProcedures: a form's is ahead of those within it, whichever of its Kids they stand in.
func TestOrderOfProcedures(t *testing.T) {
	makes(t, "(lambda (a) (lambda (b c) 1)) (lambda (d e f) 2)", "1 2", "", "closure 1, pop, closure 3, return",
		"1: closure 2, return", "2: const 0, return", "3: const 1, return")
	makes(t, "(let ((x (lambda () 1)) (y (lambda (a) 2))) (lambda (a b) 3))", "1 2 3", "", "closure 1, closure 2, closure 3, call 2, return",
		"2: closure 4, return", "0: const 0, return", "1: const 1, return", "2: const 2, return")
	makes(t, "((lambda (a) (let () 1)) (let ((x 2)) 3))", "1 2 3", "", "closure 1, closure 3, const 1, call 1, call 1, return",
		"1: closure 2, tail 0", "0: const 0, return", "1: const 2, return")
	makes(t, "(if (lambda () 1) (lambda (a) 2) (lambda (a b) 3))", "1 2 3", "", "closure 1, branch 4, closure 2, jump 5, closure 3, return",
		"0: const 0, return", "1: const 1, return", "2: const 2, return")
	makes(t, "(while (lambda () 1) (lambda (a) 2) (lambda (a b) 3))", "1 2 3 none", "",
		"closure 1, branch 7, closure 2, pop, closure 3, pop, jump 0, const 3, return", "0: const 0, return", "1: const 1, return", "2: const 2, return")
	makes(t, "(lambda () (lambda (a) 1) (let ((x 2)) 3) (lambda (a b) 4))", "1 2 3 4", "", "closure 1, return",
		"0: closure 2, pop, closure 3, const 1, call 1, pop, closure 4, return", "1: const 0, return", "1: const 2, return", "2: const 3, return")
	// Two that are the same are two all the same.
	makes(t, "(lambda () 1) (lambda () 1)", "1", "", "closure 1, pop, closure 2, return", "0: const 0, return", "0: const 0, return")
}

// TestOrderOfGlobals: as they are met, each once, a define's and a set's name ahead of its form.
func TestOrderOfGlobals(t *testing.T) {
	makes(t, "(f g f h g)", "", "f g h", "global 0, global 1, global 0, global 2, global 1, call 4, return")
	makes(t, "(define a (b c)) (define d a)", "", "a b c d", "global 1, global 2, call 1, setglobal 0, pop, global 0, setglobal 3, return")
	makes(t, "a (lambda (x) b (set! c x)) d", "", "a b c d", "global 0, pop, closure 1, pop, global 3, return", "1: global 1, pop, var 0, setglobal 2, return")
	makes(t, "(let ((x a)) b) c", "", "a b c", "closure 1, global 0, call 1, pop, global 2, return", "1: global 1, return")
	makes(t, "(let ((x (lambda () a))) b)", "", "a b", "closure 1, closure 2, call 1, return", "1: global 1, return", "0: global 0, return")
	makes(t, "(set! a (lambda () (set! b a)))", "", "a b", "closure 1, setglobal 0, return", "0: global 0, setglobal 1, return")
	// Bound at one place, a name is a global at another one.
	makes(t, "(lambda (x) x) x", "", "x", "closure 1, pop, global 0, return", "1: var 0, return")
	makes(t, "x (lambda (x) (set! x 1))", "1", "x", "global 0, pop, closure 1, return", "1: const 0, setvar 0, return")
	// Names that are quoted, or primitives', are none.
	makes(t, "(cons car 'x)", "car 'x", "", "const 0, const 1, prim cons, return")
}

// TestOrderOfConstants: as the instructions stand that push them, each once.
func TestOrderOfConstants(t *testing.T) {
	makes(t, "1 2 1 3 2", "1 2 3", "", "const 0, pop, const 1, pop, const 0, pop, const 2, pop, const 1, return")
	makes(t, "(f 2 (lambda () 3 2) 4)", "2 3 4", "f", "global 0, const 0, closure 1, const 2, call 3, return", "0: const 1, pop, const 0, return")
	makes(t, "(let ((x 1) (y (lambda () 2))) 3) 4", "1 2 3 4", "", "closure 1, const 0, closure 2, call 2, pop, const 3, return", "2: const 2, return", "0: const 1, return")
	makes(t, "(if #f 1) 2", "#f 1 none 2", "", "const 0, branch 4, const 1, jump 5, const 2, pop, const 3, return")
	makes(t, "(if (if #f 1) 2)", "#f 1 none 2", "", "const 0, branch 4, const 1, jump 5, const 2, branch 8, const 3, jump 9, const 2, return")
	makes(t, "(while 1 (while 2 3)) 4", "1 2 3 none 4", "",
		"const 0, branch 10, const 1, branch 7, const 2, pop, jump 2, const 3, pop, jump 0, const 3, pop, const 4, return")
	makes(t, "'(1 (2) 3) '()", "1 2 nil 3", "", "const 0, const 1, const 2, prim cons, const 3, const 2, prim cons, prim cons, prim cons, pop, const 2, return")
	makes(t, "'a a 'a 'b", "'a 'b", "a", "const 0, pop, global 0, pop, const 0, pop, const 1, return")
	// Words of unlike tags are unlike, whatever their numbers; a primitive is a constant where it is called by nobody.
	makes(t, "'() #f #t (while #f) 0 1 'a cons car", "nil #f #t none 0 1 'a cons car", "",
		"const 0, pop, const 1, pop, const 2, pop, const 1, branch 9, jump 6, const 3, pop, const 4, pop, const 5, pop, const 6, pop, const 7, pop, const 8, return")
	makes(t, "(car cdr)", "cdr", "", "const 0, prim car, return")
	makes(t, "(define x 1)", "1", "x", "const 0, setglobal 0, return")
}

// TestOrderOfSymbols: they are laid down as they are met, and only those that are quoted.
func TestOrderOfSymbols(t *testing.T) {
	for _, c := range []struct{ s, want string }{
		{"", ""},
		{"x (define y 1) (lambda (z) (set! z car))", ""},
		{"'b 'a 'b 'c", "b a c"},
		{"'(b (a . c) d b)", "b a c d"},
		{"(lambda (x) 'b (lambda () 'a)) 'c", "b a c"},
		{"(let ((x 'b) (y (lambda () 'a))) 'c) 'd", "b a c d"},
		{"(if 'c 'b 'a)", "c b a"},
		{"(define x 'c) (set! y 'b)", "c b"},
		{"(while 'c 'b 'a)", "c b a"},
		{"('c 'b 'a)", "c b a"},
		{"(begin 'z (spawn 'c) (join 'b) (lock 'a) (unlock 'd))", "z c b a d"},
		{"''x '(lambda (y) 'z)", "quote x lambda y z"},
		{"(cons 'q 'p)", "q p"},
	} {
		for _, first := range []string{"", "z", "a b", "x quote other c"} {
			n := table(t, strings.Fields(first)...)
			compiled(t, n, formsOf(t, c.s)...)
			want := strings.Fields(first)
			for _, s := range strings.Fields(c.want) {
				if !strings.Contains(" "+first+" ", " "+s+" ") {
					want = append(want, s)
				}
			}
			if got := strings.Join(n.All(), " "); got != strings.Join(want, " ") {
				t.Errorf("%s in a table of %s: %s, not %s", c.s, first, got, strings.Join(want, " "))
			}
		}
	}
}

// TestNumbersOfSymbols: a constant has the number that the table gives.
func TestNumbersOfSymbols(t *testing.T) {
	n := table(t, "x", "b", "y")
	c := compiled(t, n, formsOf(t, "'a 'b 'c")...)
	if got := listing(n, c); got != "'a 'b 'c\n\n0: const 0, pop, const 1, pop, const 2, return" {
		t.Error(got)
	}
	for i, want := range []int64{3, 1, 4} {
		if c.Consts[i] != api.Word(want<<4)|api.Word(api.TagSymbol) {
			t.Errorf("constant %d is %x", i, uint64(c.Consts[i]))
		}
	}
	// Compiled again the same symbols have the same numbers.
	if got := listing(n, compiled(t, n, formsOf(t, "'c 'a")...)); got != "'c 'a\n\n0: const 0, pop, const 1, return" {
		t.Error(got)
	}
	if n.Len() != 5 {
		t.Error(n.All())
	}
}
