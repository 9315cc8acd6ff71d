package once_test

import (
	"math/rand"
	"slices"
	"strings"
	"testing"

	"dapple/api"
	"dapple/once"
)

// wrong is a source that is refused, and which names its symbols have laid down.
type wrong struct {
	source string
	e      api.Errno
	place  int
	names  string
}

// wrongs are sources that are refused, each by another layer, or at another place.
func wrongs() []wrong {
	long := "(" + strings.Repeat(strings.Repeat("x", 32)+"()", 1900) + ")"
	return []wrong{
		{"'a \"", api.ErrLexByte, 3, ""},
		{"'a 1+ \"", api.ErrLexText, 3, ""},
		{"'a '" + strings.Repeat("b", 33), api.ErrLexText, 4, ""},
		{"1 576460752303423488", api.ErrLexOver, 2, ""},
		{"'a" + strings.Repeat(" ", 65535), api.ErrMuch, 0, ""},

		{"(car", api.ErrReadForm, 4, ""},
		{"'a )", api.ErrReadForm, 3, ""},
		{"'a (b . c d)", api.ErrReadForm, 10, ""},
		{strings.Repeat("(", 101), api.ErrReadDeep, 100, ""},
		{strings.Repeat("1 ", 10001), api.ErrReadMuch, 20000, ""},

		{"(if)", api.ErrFormsForm, 0, ""},
		{"1 (if)", api.ErrFormsForm, 1, ""},
		{"'a 'b () 'c", api.ErrFormsForm, 2, ""},
		{"'a (begin 'b (define x 'c)) 'd", api.ErrFormsForm, 1, ""},
		{"'a " + long, api.ErrFormsForm, 1, ""},
		{"'a 'b 'c (f 'd if)", api.ErrFormsName, 3, ""},
		{"'a (set! car 'b)", api.ErrFormsName, 1, ""},
		{"(lambda (x y) 'a) (lambda (x x) 'a)", api.ErrFormsTwice, 1, ""},

		{"'a " + defines(65, "'b") + "'c", api.ErrCompileGlobal, 65, "a b"},
		{"'a " + tooMuch("'b") + " 'c", api.ErrCompileMuch, 1, "a b"},
		{tooMuch("1"), api.ErrCompileMuch, 0, ""},

		// What is told of several is what is met first: by read ahead of forms.Of, by that ahead of compile.Compile; of data the first one's.
		{"(if) (", api.ErrReadForm, 6, ""},
		{tooMuch("'a") + " (if) )", api.ErrReadForm, len(tooMuch("'a") + " (if) "), ""},
		{"(if) if", api.ErrFormsForm, 0, ""},
		{"if (if)", api.ErrFormsName, 0, ""},
		{tooMuch("'a") + " (if)", api.ErrFormsForm, 1, ""},
		{defines(70, "'a") + "if", api.ErrFormsName, 70, ""},
		{"'a " + tooMuch("'b") + defines(70, "'c"), api.ErrCompileMuch, 1, "a b"},
		{defines(64, "'a") + tooMuch("'b") + "y", api.ErrCompileGlobal, 64, "a b"},
	}
}

// TestWrongSources: the first error, and its place, which are kept: whoever asks again is told the same, and nothing is made again.
func TestWrongSources(t *testing.T) {
	for _, w := range wrongs() {
		c := once.New()
		for range 3 {
			comesTo(t, c, w.source, "", w.e, w.place)
			hasMade(t, c, 1, strings.Fields(w.names)...)
		}
	}
	c, seen := once.New(), map[string]bool{}
	for range 3 {
		for _, w := range wrongs() {
			comesTo(t, c, w.source, "", w.e, w.place)
			seen[w.source] = true
			if c.Made() != len(seen) {
				t.Fatal("Made", c.Made(), "not", len(seen))
			}
		}
	}
}

// wells are sources that are well formed, with their code, made one behind the other.
func wells() [][2]string {
	return [][2]string{
		{"", "const none\nproc 0\n const 0\n return\n"},
		{" ", "const none\nproc 0\n const 0\n return\n"},
		{"; nothing", "const none\nproc 0\n const 0\n return\n"},
		{"5", "const int 5\nproc 0\n const 0\n return\n"},
		{"'b", "const symbol 0\nproc 0\n const 0\n return\n"},
		{"'a", "const symbol 1\nproc 0\n const 0\n return\n"},
		{" 'a", "const symbol 1\nproc 0\n const 0\n return\n"},
		{"'c 'b", "const symbol 2\nconst symbol 0\nproc 0\n const 0\n pop\n const 1\n return\n"},
		{"(define f (lambda (x) (g x)))", "global f\nglobal g\nproc 0\n closure 1\n setglobal 0\n return\nproc 1\n global 1\n var 0\n tail 1\n"},
		{"'d", "const symbol 3\nproc 0\n const 0\n return\n"},
		{"(let ((x 'b)) x)", "const symbol 0\nproc 0\n closure 1\n const 0\n call 1\n return\nproc 1\n var 0\n return\n"},
	}
}

// TestWellFormedSources: their code, with symbols by the one table of all of them, again and again.
func TestWellFormedSources(t *testing.T) {
	c := once.New()
	for i, w := range wells() {
		for range 2 {
			comesTo(t, c, w[0], w[1], api.OK, 0)
			if c.Made() != i+1 {
				t.Error("Made", c.Made(), "not", i+1)
			}
		}
	}
	for _, w := range wells() {
		comesTo(t, c, w[0], w[1], api.OK, 0)
	}
	hasMade(t, c, len(wells()), "b", "a", "c", "d")
}

// TestDrawn: calls one behind the other, drawn, against the plain one.
func TestDrawn(t *testing.T) {
	r := rand.New(rand.NewSource(251))
	for range 150 {
		c, p := once.New(), newPlain()
		var known []string
		for range 60 {
			switch r.Intn(6) {
			case 0, 1:
				known = append(known, drawnSource(r))
				gets(t, c, p, known[len(known)-1])
			case 2:
				if len(known) > 0 {
					gets(t, c, p, known[r.Intn(len(known))])
				}
			case 3:
				l := append(drawnSources(r, 8), known[:min(r.Intn(4), len(known))]...)
				known = append(known, l...)
				getsAll(t, c, p, 1+r.Intn(16), l)
			default:
				counts(t, c, p)
			}
		}
	}
}

// TestFullTable: what is refused as no name more can be laid down is refused for good, what has names that there are is made.
func TestFullTable(t *testing.T) {
	c, p := once.New(), newPlain()
	fill(t, c, p, 4095)
	for range 2 {
		comesTo(t, c, "1 'n7", "const int 1\nconst symbol 7\nproc 0\n const 0\n pop\n const 1\n return\n", api.OK, 0)
		comesTo(t, c, "1 'n7 '(x y) 'z", "", api.ErrNamesMuch, 2)
		comesTo(t, c, "'y", "", api.ErrNamesMuch, 0)
		comesTo(t, c, "'x", "const symbol 4095\nproc 0\n const 0\n return\n", api.OK, 0)
		comesTo(t, c, "'z (if)", "", api.ErrFormsForm, 1)
	}
	if l := c.Names(); len(l) != 4096 || l[4095] != "x" || c.Made() != 5+5 {
		t.Error(len(l), c.Made())
	}
}

// fill lays down so many names, n0 and so on, by five sources.
func fill(t *testing.T, c *once.Codes, p *plain, names int) {
	t.Helper()
	for i := range 5 {
		gets(t, c, p, quotes("n", i*names/5, (i+1)*names/5))
	}
	if !slices.Equal(c.Names(), quoted("n", 0, names)) {
		t.Fatal("it has other names")
	}
}

// TestCodesKnowNothingOfOneAnother: each has its own sources, and its own names (R4).
func TestCodesKnowNothingOfOneAnother(t *testing.T) {
	c, d := once.New(), once.New()
	c.Get("'a")
	c.Get("(")
	hasMade(t, d, 0)
	comesTo(t, d, "'b", "const symbol 0\nproc 0\n const 0\n return\n", api.OK, 0)
	comesTo(t, d, "'a", "const symbol 1\nproc 0\n const 0\n return\n", api.OK, 0)
	comesTo(t, c, "'a", "const symbol 0\nproc 0\n const 0\n return\n", api.OK, 0)
	hasMade(t, c, 2, "a")
	hasMade(t, d, 2, "b", "a")
}
