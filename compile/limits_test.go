package compile_test

import (
	"strconv"
	"strings"
	"testing"

	"dapple/api"
)

// many is a text, so often.
func many(n int, s string) string { return strings.Repeat(s+" ", n) }

// edge holds a source that may be, and one that is too much with the form at, whatever stands behind that.
func edge(t *testing.T, fine, over string, at int) {
	t.Helper()
	compiled(t, table(t), formsOf(t, fine)...)
	refused(t, table(t), api.ErrCompileMuch, at, "", append(formsOf(t, over), api.Form{}, formOf(t, "'a"))...)
}

func TestHowManyProcedures(t *testing.T) {
	edge(t, many(255, "(lambda () 1)"), many(256, "(lambda () 1)"), 255)
	edge(t, many(255, "(lambda () 1)")+many(90, "2"), many(300, "(lambda () 1)"), 255)
	edge(t, "(begin "+many(255, "(lambda () 1)")+")", "(begin "+many(256, "(lambda () 1)")+")", 0)
	edge(t, many(255, "(let () 1)"), many(256, "(let () 1)"), 255)
	edge(t, many(5, "2")+many(127, "(lambda () (let () 1))")+"(lambda () 1)", many(5, "2")+many(128, "(lambda () (let () 1))"), 132)
}

// numbers are so many unlike ones, from the first one on.
func numbers(first, n int) string {
	var b strings.Builder
	for i := range n {
		b.WriteString(strconv.Itoa(first+i) + " ")
	}
	return b.String()
}

func TestHowManyConstants(t *testing.T) {
	edge(t, numbers(0, 1024), numbers(0, 1025), 1024)
	edge(t, numbers(0, 1024)+numbers(3, 500), numbers(0, 1024)+"5 77 "+numbers(1024, 9), 1026)
	edge(t, "(begin "+numbers(0, 1024)+")", "(begin "+numbers(0, 1025)+")", 0)
	edge(t, "(lambda () "+numbers(0, 1000)+") (lambda () "+numbers(990, 34)+")", "(lambda () "+numbers(0, 1000)+") (lambda () "+numbers(990, 35)+")", 1)
	edge(t, numbers(0, 1023)+"(if 1 2)", numbers(0, 1024)+"(if 1 2)", 1024)
	edge(t, numbers(0, 1023)+"car", numbers(0, 1024)+"car", 1024)
	edge(t, numbers(0, 1023)+"'()", numbers(0, 1024)+"'()", 1024)
	edge(t, numbers(0, 1023)+"(car 5)", numbers(0, 1024)+"(while 5)", 1024)
}

func TestHowManyInstructions(t *testing.T) {
	edge(t, many(2048, "1"), many(2049, "1"), 2048)
	edge(t, many(2040, "1")+"(begin "+many(8, "1")+")", many(2040, "1")+"(begin "+many(9, "1")+") 1", 2040)
	edge(t, many(2046, "1")+"(f)", many(2047, "1")+"(f)", 2047)
	edge(t, many(2046, "1")+"(f 1)", many(2047, "1")+"(f 1)", 2047)
	edge(t, "(lambda () "+many(2048, "1")+")", "(lambda () "+many(2049, "1")+")", 0)
	edge(t, "(lambda () "+many(2047, "1")+"(f))", "(lambda () "+many(2047, "1")+"(f 1))", 0)
	edge(t, "1 1 (let () "+many(2048, "1")+") 1", "1 1 (let () "+many(2049, "1")+") 1", 2)
	edge(t, "(lambda () (lambda () "+many(2048, "1")+"))", "(lambda () (lambda () "+many(2049, "1")+"))", 0)
	edge(t, "(begin (lambda () "+many(2048, "1")+") "+many(2047, "1")+")", "(begin (lambda () "+many(2048, "1")+") "+many(2048, "1")+")", 0)
	// Each procedure by itself: all of them together may be more.
	edge(t, many(19, "(lambda () "+many(400, "1")+")"), many(19, "(lambda () "+many(400, "1")+")")+many(2030, "2"), 2048)
	// An if that needs no OpJump is shorter.
	edge(t, "(lambda () "+many(2045, "1")+"(if 1 1 1))", "(lambda () "+many(2046, "1")+"(if 1 1 1))", 0)
	edge(t, many(2045, "1")+"(if 1 1 1)", many(2046, "1")+"(if 1 1 1)", 2046)
	edge(t, many(2045, "1")+"(while 1)", many(2045, "1")+"(while 1 1)", 2045)
}

func TestHowManyParameters(t *testing.T) {
	l := strings.Join(someNames("x", 256), " ")
	edge(t, "(lambda ("+l+") 1)", "(lambda ("+l+" y) 1)", 0)
	edge(t, "1 (lambda ("+l+") x0)", "1 (lambda ("+l+" y) y)", 1)
	edge(t, "(lambda () (lambda ("+l+") 1))", "(lambda () (lambda ("+l+" y) 1))", 0)
	edge(t, "(let ((y (lambda ("+l+") 1))) y)", "(let ((y (lambda ("+l+" y) 1))) y)", 0)
}

func TestHowManyArguments(t *testing.T) {
	edge(t, "(f "+many(254, "1")+")", "(f "+many(255, "1")+")", 0)
	edge(t, "(lambda () (f "+many(254, "1")+"))", "(lambda () (f "+many(255, "1")+"))", 0)
	edge(t, "(f "+many(254, "1")+")", "(f "+many(257, "1")+")", 0)
	edge(t, "(lambda () (f "+many(254, "1")+"))", "(lambda () (f "+many(300, "1")+"))", 0)
	bindings := func(n int) string { return "((" + strings.Join(someNames("x", n), " 1) (") + " 1))" }
	edge(t, "(let "+bindings(254)+" x0)", "(let "+bindings(255)+" x0)", 0)
	edge(t, "(lambda () (let "+bindings(254)+" x0))", "(lambda () (let "+bindings(257)+" x0))", 0)
	// Each call by itself.
	compiled(t, table(t), formsOf(t, many(8, "(f "+many(254, "1")+")"))...)
}

func TestHowManyPlacesUp(t *testing.T) {
	l := strings.Join(someNames("x", 256), " ")
	m := strings.Join(someNames("y", 256), " ")
	edge(t, "(lambda ("+l+") (lambda ("+m+") x255))", "(lambda ("+l+") (lambda ("+m+") x254))", 0)
	edge(t, "(lambda ("+l+") (lambda ("+m+") y0 (set! x255 1)))", "(lambda ("+l+") (lambda ("+m+") (set! x254 1)))", 0)
	edge(t, "1 (lambda (a) (lambda ("+l+") a))", "1 (lambda (a b) (lambda ("+l+") a))", 1)
	edge(t, "(lambda (a b) (lambda ("+l+") b))", "(lambda (a) (let ((b 1)) (lambda ("+l+") a)))", 0)
	// So far up are only those that are used.
	compiled(t, table(t), formsOf(t, "(lambda (a) (lambda ("+l+") (lambda ("+m+") y0 x255 g car)))")...)
}

func TestHowDeep(t *testing.T) {
	edge(t, "'("+many(254, "1")+")", "'("+many(255, "1")+")", 0)
	edge(t, "'("+many(254, "1")+". 1)", "'("+many(255, "1")+". 1)", 0)
	edge(t, "'("+many(253, "1")+"(1))", "'("+many(254, "1")+"(1))", 0)
	edge(t, "'("+many(253, "1")+"())", "'("+many(254, "1")+"() . 1)", 0)
	edge(t, "1 (cons 1 '("+many(253, "1")+")) 2", "1 (cons 1 '("+many(254, "1")+")) 2", 1)
	edge(t, "(f '("+many(253, "1")+"))", "(f '("+many(254, "1")+"))", 0)
	edge(t, "(let ((a 1) (b '("+many(252, "1")+"))) b)", "(let ((a 1) (b '("+many(253, "1")+"))) b)", 0)
	edge(t, "(f "+many(253, "1")+"(f))", "(f "+many(253, "1")+"(f 1))", 0)
	edge(t, "(f "+many(253, "1")+"(car 1))", "(f "+many(253, "1")+"(cons 1 1))", 0)
	edge(t, "(f "+many(253, "1")+"(if 1 1 1))", "(f "+many(253, "1")+"(if 1 1 (cons 1 1)))", 0)
	edge(t, "(f "+many(253, "1")+"(while 1 1))", "(f "+many(253, "1")+"(while 1 (cons 1 1)))", 0)
	edge(t, "(f "+many(253, "1")+"(yield))", "(f "+many(254, "1")+"(yield))", 0)
	edge(t, "(f "+many(253, "1")+"(set! x 1))", "(f "+many(253, "1")+"(set! x (cons 1 1)))", 0)
	edge(t, "(f "+many(253, "1")+"(let () (cons 1 1)))", "(f "+many(253, "1")+"(let ((x 1)) 1))", 0)
	edge(t, "(f "+many(253, "1")+"(lambda () '("+many(254, "1")+")))", "(f "+many(253, "1")+"(lambda () '("+many(255, "1")+")))", 0)
	edge(t, "(if '("+many(254, "1")+") '("+many(254, "1")+") '("+many(254, "1")+"))", "(if 1 2 '("+many(255, "1")+"))", 0)
	edge(t, "(lambda () (begin '("+many(254, "1")+") '("+many(254, "1")+")))", "(lambda () (begin '("+many(255, "1")+") 1))", 0)
	// What stands deep within others, one of two on the stack each time.
	deep := func(n int, inner string) string { return strings.Repeat("(+ 1 ", n) + inner + strings.Repeat(")", n) }
	edge(t, deep(97, "'("+many(157, "1")+")"), deep(97, "'("+many(158, "1")+")"), 0)
}

func TestHowManyGlobals(t *testing.T) {
	l := someNames("g", 64)
	all := strings.Join(l, " ")
	over := func(at int, s string) {
		t.Helper()
		refused(t, table(t), api.ErrCompileGlobal, at, "", formsOf(t, s)...)
	}
	compiled(t, table(t), formsOf(t, all)...)
	compiled(t, table(t), formsOf(t, all+" "+all+" (set! g3 car)")...)
	compiled(t, table(t), formsOf(t, "(begin "+all+") (lambda (g64) g64)")...)
	over(64, all+" x")
	over(64, all+" (set! x 1)")
	over(64, all+" (lambda (y) x)")
	over(67, all+" g1 g2 g3 (define x 1) y z")
	over(0, "(begin "+all+" x)")
	over(0, "(begin "+all+" x y z) (define w 1)")
	over(1, "(lambda (x) x "+all+") x y")
	compiled(t, table(t), formsOf(t, "(lambda (x) x "+all+") car g5 'x")...)
}
