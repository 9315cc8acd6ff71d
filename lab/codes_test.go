package lab_test

import (
	"fmt"
	"strings"
	"testing"
)

// TestSourceLines: all lines up to the next one that is the one byte '.', each with a newline behind it, are the source.
func TestSourceLines(t *testing.T) {
	tells(t, "source\n.\n", "source 1 0")
	tells(t, "source\n.", "source 1 0")
	tells(t, "source\n\n \n\t\n.", "source 1 0")
	tells(t, "source\n(define x 1)\n(define y 2)\n(lambda () 1)\n.\nnames", "source 2 2", "names 0")
	tells(t, "source\n(define\nx\n1)\n.", "source 1 1")
	// Without the newlines the first would be one word, the second one a comment up to the end.
	tells(t, "source\na\nb\n.", "source 1 2")
	tells(t, "source\na ; b\nc\n.", "source 1 2")
	tells(t, "source\n1 ; 2\n.\nsource\n;\n.", "source 1 0", "source 1 0")
	for ahead := range 20 {
		tells(t, source(strings.Repeat("a\n", ahead)+")"), fmt.Sprint("error 60 ", 2*ahead))
		tells(t, source(strings.Repeat("\n", ahead)+"("), fmt.Sprint("error 60 ", ahead+2))
	}
}

// TestSourceEnd: without such a line it is wrong; a blank beside the '.' makes it another line.
func TestSourceEnd(t *testing.T) {
	for _, end := range []string{"", "\n", "\n1", "\n1\n", "\n .", "\n. ", "\n.\t", "\n\t.\n", "\n..", "\n.\r", "\n.\r\n1", "\n'.", "\n. .\n", "\n1.", "\n;.\n", "\n#\n"} {
		refuses(t, "source"+end, 1)
		refuses(t, "names\n \n\tsource "+end, 3)
		refuses(t, source("1")+"source"+end, 4)
	}
	// Such lines are part of it: a '.' by itself can't stand there.
	tells(t, "source\n .\n.\nnames", "error 60 1", "names 0")
	tells(t, "source\n. \n.", "error 60 0")
	tells(t, "source\n(a\n .\n b)\n.", "error 70 0")
	tells(t, "source\n'(a\n .\n b)\n.\nnames", "source 1 0", "names 2", "a", "b")
	tells(t, "source\n..\n.", "source 1 1")
	// The first one ends it; a second one is no command.
	refuses(t, "source\n1\n.\n.", 4)
	refuses(t, "source\n.\n.", 3)
}

// TestSourceOfCommands: lines that would be wrong as commands, or would be some, are a source.
func TestSourceOfCommands(t *testing.T) {
	tells(t, "source\nfly\n.", "source 1 1")
	tells(t, "source\nworld 4\n.", "source 1 1")
	tells(t, "source\nsource\nnames\ncollect collect\n.\nnames", "source 1 3", "names 0")
	tells(t, "source\n# a\n.", "error 51 0")
	tells(t, "source\n1\nsource\n2\n.\nnames", "source 1 1", "names 0")
	for _, s := range shapes() {
		if s.least >= 0 {
			told(t, lines("source", s.command(7, "01"), "."))
		}
	}
}

// refusedSources are sources that read, forms and compile refuse, with what is told of them.
func refusedSources() [][2]string {
	much := make([]string, 65)
	for i := range much {
		much[i] = fmt.Sprintf("(define x%d 1)", i)
	}
	return [][2]string{
		{"(a", "error 60 3"},
		{"'a)", "error 60 2"},
		{"a\n  )", "error 60 4"},
		{"\"", "error 50 0"},
		{"a \x80", "error 50 2"},
		{"a 1b", "error 51 2"},
		{"a " + strings.Repeat("x", 33), "error 51 2"},
		{"99999999999999999999", "error 52 0"},
		{strings.Repeat("(", 101), "error 61 100"},
		{strings.Repeat("1 ", 10001), "error 62 20000"},
		{"1 (if)", "error 70 1"},
		{"()", "error 70 0"},
		{"1 2 3 (car 1 2) (if)", "error 70 3"},
		{"1 (set! car 1)", "error 71 1"},
		{"1 2 if", "error 71 2"},
		{"(lambda (x x) 1)", "error 72 0"},
		{"'kept (let ((y 1) (y 2)) 1)", "error 72 1"},
		{strings.Join(much, " "), "error 91 64"},
		{"1 " + strings.Join(much, " "), "error 91 65"},
		{strings.Repeat("(lambda () 1) ", 256), "error 90 255"},
		{"(begin " + strings.Repeat("1 ", 2049) + ")", "error 90 0"},
		{"2 (f" + strings.Repeat(" 1", 257) + ")", "error 90 1"},
	}
}

// TestSourceErrors: read's with its place, those of forms and of compile with the datum's number; behind that the code and the world
// are what they were.
func TestSourceErrors(t *testing.T) {
	for _, row := range refusedSources() {
		bad, e := row[0], row[1]
		tells(t, source(bad)+"code\nworld 4 0\nnames", e, "none", "none", "names 0")
		tells(t, source("1")+source(bad)+"code", "source 1 0", e, "code 4", "const int 1", "proc 0", " const 0", " return")
		tells(t, source("(define x 1) (lambda () x)")+"world 4 1\nstart 0\nsettle 1\n"+source(bad)+"settle 9\nended 1\nphase\nglobals\nbaton 5 0 0",
			"source 2 1", "ok", "thread 1", "settled 1", e, "settled 2", "= #proc1(())", "phase 0 0 3", "globals i1", "baton 1 2 running")
		tells(t, source(bad)+source("7")+"world 4 0", e, "source 1 0", "ok")
	}
}

// TestNamesBehindErrors: what has come to the table stays there: of an error of read or forms nothing, of one of compile what the
// chapter of compile says.
func TestNamesBehindErrors(t *testing.T) {
	much := make([]string, 65)
	for i := range much {
		much[i] = fmt.Sprintf("(define x%d 'q%d)", i, i)
	}
	tells(t, source("'a 'b (if)")+"names", "error 70 2", "names 0")
	tells(t, source("'a 'b )")+"names", "error 60 6", "names 0")
	tells(t, source("'(z y)")+source("'a (if)")+source("'(a y)")+"names", "source 1 0", "error 70 1", "source 1 0", "names 3", "z", "y", "a")
	tells(t, source("'a (begin 'b "+strings.Repeat("1 ", 2049)+" 'c) 'd")+"names", "error 90 1", "names 3", "a", "b", "c")
	want := []string{"error 91 64", "names 65"}
	for i := range much {
		want = append(want, fmt.Sprintf("q%d", i))
	}
	tells(t, source(strings.Join(much, "\n"))+"names", want...)
}

// TestFullTable: a table takes 4096 names; what is refused then, and what is not.
func TestFullTable(t *testing.T) {
	const names, together = 4096, 128 // a list that is quoted has no more than a stack takes
	var script strings.Builder
	var want, all []string
	for from := 0; from < names; from += together {
		var l []string
		for i := range together {
			l = append(l, fmt.Sprintf("s%d", from+i))
		}
		script.WriteString(source("'(" + strings.Join(l, " ") + ")"))
		want, all = append(want, "source 1 0"), append(all, l...)
	}
	script.WriteString("names\n" + source("1 '(s5 new)") + source("'s4095") + source("'(s1 other s2)") + source("other") + "names\n")
	all = append([]string{"names 4096"}, all...)
	want = append(append(want, all...), "error 41 1", "source 1 0", "error 41 0", "source 1 1")
	tells(t, script.String(), append(want, all...)...)
}

// TestSourceTells: how many procedures, how many globals.
func TestSourceTells(t *testing.T) {
	for _, row := range [][2]string{
		{"", "source 1 0"},
		{"; nothing", "source 1 0"},
		{"1", "source 1 0"},
		{"(define f (lambda (x y) (if x (f y) y)))", "source 2 1"},
		{"(define f (lambda (x) (lambda (y) (g x y)))) (let ((z f)) (h z))", "source 4 3"},
		{strings.Repeat("(lambda () 1) ", 255), "source 256 0"},
	} {
		tells(t, source(row[0]), row[1])
	}
	var l []string
	for i := range 64 {
		l = append(l, fmt.Sprintf("x%d", i))
	}
	tells(t, source(strings.Join(l, "\n")), "source 1 64")
}

// TestSourceIsAnotherOne: there is no world behind it; the names go on, so that symbols keep their numbers.
func TestSourceIsAnotherOne(t *testing.T) {
	tells(t, source("1")+"world 4 0\nstart 0\n"+source("2")+"start 0\nphase\nheap\npar 1\nsettle 5\nworld 4 0\nready\nstart 0\nsettle 9\nended 1",
		"source 1 0", "ok", "thread 1", "source 1 0", "none", "none", "none", "none", "none", "ok", "ready", "thread 1", "settled 1", "= 2")
	tells(t, source("'b")+source("'a")+source("'b")+"code\nnames\n"+source("'(c a)")+"code",
		"source 1 0", "source 1 0", "source 1 0", "code 4", "const symbol 0", "proc 0", " const 0", " return", "names 2", "b", "a",
		"source 1 0", "code 10", "const symbol 2", "const symbol 1", "const nil", "proc 0", " const 0", " const 1", " const 2", " prim 1", " prim 1", " return")
}

// TestCode: its text's lines, and how many these are.
func TestCode(t *testing.T) {
	tells(t, source("")+"code", "source 1 0", "code 4", "const none", "proc 0", " const 0", " return")
	tells(t, source("(define f (lambda (x y) (if x (f y) y)))")+"code\ncode", append([]string{"source 2 1"},
		strings.Split(strings.Repeat("code 13,global f,proc 0, closure 1, setglobal 0, return,proc 2, var 1, branch 5, global 0, var 0, tail 1, var 0, return,", 2), ",")[:28]...)...)
	tells(t, source("(while #f 'a) car '() (spawn (lambda () (lock -5) (yield))) (set! x #t)")+"code",
		"source 2 1",
		"code 32", "const false", "const symbol 0", "const none", "const prim 2", "const nil", "const int -5", "const true",
		"global x",
		"proc 0", " const 0", " branch 5", " const 1", " pop", " jump 0", " const 2", " pop", " const 3", " pop", " const 4", " pop", " closure 1", " spawn", " pop", " const 6", " setglobal 0", " return",
		"proc 0", " const 5", " lock", " pop", " yield", " return")
}

// TestData: what is read is written; the place of what is wrong.
func TestData(t *testing.T) {
	for _, row := range [][2]string{
		{"data", "data"},
		{"data ", "data"},
		{"data\t \t", "data"},
		{"data ; a", "data"},
		{"data ()", "data ()"},
		{"data 5", "data 5"},
		{"data a", "data a"},
		{"data data", "data data"},
		{"data a b", "data a b"},
		{"data  a\t b ", "data a b"},
		{"data 5 -7 ()", "data 5 -7 ()"},
		{"data(", "wrong"},
		{"data (a 1 . b) 'x #t", "data (a 1 . b) 'x #t"},
		{"data (quote x) (quote) (quote x y) (quote . x)", "data 'x (quote) (quote x y) (quote . x)"},
		{"data (a . 'b)", "data (a quote b)"},
		{"data (a . (b . (c)))", "data (a b c)"},
		{"data -007 -0 +1 #t#f", "error 51 11"},
		{"data -007 -0 +1 #t #f", "data -7 0 +1 #t #f"},
		{"data ''a", "data ''a"},
		{"data ()()(())", "data () () (())"},
		{"data a;b", "data a"},
		{"data a ; (", "data a"},
		{"data 576460752303423487 -576460752303423488", "data 576460752303423487 -576460752303423488"},
		{"data 576460752303423488", "error 52 0"},
		{"data )", "error 60 0"},
		{"data (a", "error 60 2"},
		{"data (", "error 60 1"},
		{"data ( ", "error 60 2"},
		{"data   (", "error 60 1"},
		{"data\t(\t\t", "error 60 3"},
		{"\t data (", "error 60 1"},
		{"data (. a)", "error 60 1"},
		{"data (a . b c)", "error 60 7"},
		{"data '", "error 60 1"},
		{"data a \"b", "error 50 2"},
		{"data a \r b", "data a b"},
		{"data a\r", "data a"},
		{"data a \v b", "error 50 2"},
		{"data \xff", "error 50 0"},
		{"data é", "error 50 0"},
		{"data 1a", "error 51 0"},
		{"data " + strings.Repeat("(", 101), "error 61 100"},
		{"data " + strings.Repeat("(", 100) + strings.Repeat(")", 100), "data " + strings.Repeat("(", 100) + strings.Repeat(")", 100)},
		{"data " + strings.Repeat("1 ", 10001), "error 62 20000"},
		{"data " + strings.Repeat("1 ", 10000), "data" + strings.Repeat(" 1", 10000)},
	} {
		if row[1] == "wrong" {
			refuses(t, row[0], 1)
			continue
		}
		tells(t, row[0], row[1])
		tells(t, lines("names", row[0], "names"), "names 0", row[1], "names 0")
	}
}

// TestDataTooLong: what is read can be too long as it is written: 1905 lists side by side take a byte more between two of them.
func TestDataTooLong(t *testing.T) {
	const symbol = "abcdefghijklmnopqrstuvwxyz012345"
	for count := 1860; count <= 1880; count++ {
		text := strings.Repeat("("+symbol+")", count)
		want := "data" + strings.Repeat(" ("+symbol+")", count)
		if len(want)-len("data ") > 65536 {
			want = "error 2 0"
		}
		tells(t, "data "+text, want)
	}
}

// TestDataIsNothingElse: it changes neither the code, nor the world, nor the names.
func TestDataIsNothingElse(t *testing.T) {
	tells(t, source("'a")+"world 4 0\ndata (b c)\ndata (\nstart 0\nsettle 9\nended 1\nnames\ncode",
		"source 1 0", "ok", "data (b c)", "error 60 1", "thread 1", "settled 1", "= a", "names 1", "a", "code 4", "const symbol 0", "proc 0", " const 0", " return")
}

// TestNames: how many, and a line for each, in the order in which they came.
func TestNames(t *testing.T) {
	tells(t, "names", "names 0")
	tells(t, source("(define x 'y)")+"names", "source 1 1", "names 1", "y")
	tells(t, source("'(b a . b)")+source("'(c (a . d) if quote ... #t 5)")+"names\nnames", "source 1 0", "source 1 0",
		"names 7", "b", "a", "c", "d", "if", "quote", "...", "names 7", "b", "a", "c", "d", "if", "quote", "...")
	tells(t, source("'"+strings.Repeat("n", 32))+"names", "source 1 0", "names 1", strings.Repeat("n", 32))
}

// TestWorlds: refused ones, behind which there is none, and such as are made anew.
func TestWorlds(t *testing.T) {
	for _, cells := range []int{0, 1, 3, 4, 5, 4095, 4096, 4097, 65535} {
		for _, locks := range []int{0, 1, 8, 9, 65535} {
			making := fmt.Sprintf("world %d %d", cells, locks)
			if cells < 4 || cells > 4096 || locks > 8 {
				tells(t, source("1")+lines("world 4 0", "start 0", making, "start 0", "phase", "heap", "world 4 0", "ready"),
					"source 1 0", "ok", "thread 1", "error 1", "none", "none", "none", "ok", "ready")
				continue
			}
			tells(t, source("1")+lines("world 4 0", "start 0", "settle 9", making, "ready", "phase", "heap", "ended 1", "start 0", "settle 9", "ended 1", "live"),
				"source 1 0", "ok", "thread 1", "settled 1", "ok", "ready", "phase 0 0 0", "heap 0", "error 201", "thread 1", "settled 1", "= 1", "live")
			free := "free"
			for i := range cells {
				free += fmt.Sprint(" ", i)
			}
			tells(t, source("1")+lines(making, "free"), "source 1 0", "ok", free)
		}
	}
	// Locks are as many as it says.
	tells(t, source("(lock 7) 1")+lines("world 4 8", "start 0", "settle 9", "ended 1", "world 4 7", "start 0", "settle 9", "ended 1"),
		"source 1 0", "ok", "thread 1", "settled 2", "= 1", "ok", "thread 1", "settled 1", "error 190")
}
