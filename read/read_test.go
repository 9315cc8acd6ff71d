package read_test

import (
	"slices"
	"strings"
	"testing"

	"dapple/api"
	"dapple/read"
)

func num(n int64) api.Datum { return api.Datum{Kind: api.DatumInt, N: n} }

func sym(text string) api.Datum { return api.Datum{Kind: api.DatumSymbol, Text: text} }

func list(kids ...api.Datum) api.Datum { return api.Datum{Kind: api.DatumList, Kids: kids} }

func dot(kids ...api.Datum) api.Datum {
	return api.Datum{Kind: api.DatumList, Kids: kids, Dot: true}
}

func quoted(d api.Datum) api.Datum { return list(sym("quote"), d) }

var (
	no, yes    = api.Datum{Kind: api.DatumFalse}, api.Datum{Kind: api.DatumTrue}
	a, b, c, d = sym("a"), sym("b"), sym("c"), sym("d")
)

// fine is what is told of a source without an error.
func fine(data ...api.Datum) told { return told{data: data} }

// wrong is what is told of one with an error at a place.
func wrong(e api.Errno, at int) told { return told{nil, e, at} }

// form is what is told of one of which a token can't stand where it does.
func form(at int) told { return wrong(api.ErrReadForm, at) }

// writes holds Write of data against a text.
func writes(t *testing.T, want string, l ...api.Datum) {
	t.Helper()
	if text, e := read.Write(l...); text != want || e != api.OK {
		t.Errorf("Write of %s: %q, %d; not %q", short(dump(l...)), short(text), e, short(want))
	}
}

// refuses holds Write of data against an error.
func refuses(t *testing.T, want api.Errno, l ...api.Datum) {
	t.Helper()
	if text, e := read.Write(l...); text != "" || e != want {
		t.Errorf("Write of %s: %q, %d; not %d", short(dump(l...)), short(text), e, want)
	}
}

// times is a text, so many times.
func times(n int, s string) string { return strings.Repeat(s, n) }

// deep is a datum within so many lists of its own.
func deep(n int, d api.Datum) api.Datum {
	for range n {
		d = list(d)
	}
	return d
}

// many are so many data without Kids.
func many(n int) []api.Datum { return slices.Repeat([]api.Datum{num(1)}, n) }

func TestExamples(t *testing.T) {
	for s, want := range map[string]told{
		"(a 1 . b) 'x #t":                 fine(dot(a, num(1), b), quoted(sym("x")), yes),
		"":                                fine(),
		"()":                              fine(list()),
		"(a . (b . (c)))":                 fine(list(a, b, c)),
		"(a . (b . c))":                   fine(dot(a, b, c)),
		"(a . ())":                        fine(list(a)),
		"(a . 'b)":                        fine(list(a, sym("quote"), b)),
		")":                               form(0),
		"(a":                              form(2),
		"(. a)":                           form(1),
		"(a . b c)":                       form(7),
		"(a . )":                          form(5),
		"'":                               form(1),
		"(')":                             form(2),
		times(101, "("):                   wrong(api.ErrReadDeep, 100),
		times(100, "(") + times(100, ")"): fine(deep(99, list())),
		times(10001, "1 "):                wrong(api.ErrReadMuch, 20000),
	} {
		reads(t, s, want)
	}
	writes(t, "(a quote b)", list(a, sym("quote"), b))
	writes(t, "5\n-7\n()", num(5), num(-7), list())
	writes(t, "")
	for _, d := range []api.Datum{dot(a), dot(a, list()), sym("1a")} {
		refuses(t, api.ErrReadForm, d)
	}
}

func TestNumbersOfErrors(t *testing.T) {
	if api.ErrMuch != 2 || api.ErrReadForm != 60 || api.ErrReadDeep != 61 || api.ErrReadMuch != 62 {
		t.Error(api.ErrMuch, api.ErrReadForm, api.ErrReadDeep, api.ErrReadMuch)
	}
}

func TestReads(t *testing.T) {
	for s, want := range map[string]told{
		" \t\r\n;a":           fine(),
		"a":                   fine(a),
		"-7":                  fine(num(-7)),
		"-0":                  fine(num(0)),
		"007":                 fine(num(7)),
		"#f":                  fine(no),
		"#t":                  fine(yes),
		"576460752303423487":  fine(num(1<<59 - 1)),
		"-576460752303423488": fine(num(-1 << 59)),
		"a b c":               fine(a, b, c),
		"(a)(b)'c":            fine(list(a), list(b), quoted(c)),
		"(()())":              fine(list(list(), list())),
		"((a b) (c (d)))":     fine(list(list(a, b), list(c, list(d)))),
		"(1 #t #f a)":         fine(list(num(1), yes, no, a)),
		"quote":               fine(sym("quote")),
		"(quote a)":           fine(quoted(a)),
		"(a;)\nb)":            fine(list(a, b)),
	} {
		reads(t, s, want)
	}
}

func TestQuotes(t *testing.T) {
	for s, want := range map[string]told{
		"'a":         fine(quoted(a)),
		"' a":        fine(quoted(a)),
		"';x\n a":    fine(quoted(a)),
		"'7":         fine(quoted(num(7))),
		"'#f":        fine(quoted(no)),
		"'()":        fine(quoted(list())),
		"''a":        fine(quoted(quoted(a))),
		"'''()":      fine(quoted(quoted(quoted(list())))),
		"'a 'b":      fine(quoted(a), quoted(b)),
		"'a b":       fine(quoted(a), b),
		"('a b)":     fine(list(quoted(a), b)),
		"(a 'b)":     fine(list(a, quoted(b))),
		"('a . b)":   fine(dot(quoted(a), b)),
		"'(a . b)":   fine(quoted(dot(a, b))),
		"'(a 'b)":    fine(quoted(list(a, quoted(b)))),
		"'quote":     fine(quoted(sym("quote"))),
		"('a)":       fine(list(quoted(a))),
		"(quote 'a)": fine(quoted(quoted(a))),
	} {
		reads(t, s, want)
	}
}

func TestTails(t *testing.T) {
	q := sym("quote")
	for s, want := range map[string]told{
		"(a . b)":                   fine(dot(a, b)),
		"(a b c . d)":               fine(dot(a, b, c, d)),
		"(a . 7)":                   fine(dot(a, num(7))),
		"(a . #f)":                  fine(dot(a, no)),
		"(a . #t)":                  fine(dot(a, yes)),
		"(() . a)":                  fine(dot(list(), a)),
		"((a . b) . c)":             fine(dot(dot(a, b), c)),
		"((a . b) c . d)":           fine(dot(dot(a, b), c, d)),
		"(a b . (c d))":             fine(list(a, b, c, d)),
		"(a . (b . (c . d)))":       fine(dot(a, b, c, d)),
		"(a . (b . (c . ())))":      fine(list(a, b, c)),
		"(a . ((b)))":               fine(list(a, list(b))),
		"(a . ((b . c) . d))":       fine(dot(a, dot(b, c), d)),
		"(a . (()))":                fine(list(a, list())),
		"((a . ()) . (b))":          fine(list(list(a), b)),
		"(a . 'b)":                  fine(list(a, q, b)),
		"(a . ''b)":                 fine(list(a, q, quoted(b))),
		"(a . (b . 'c))":            fine(list(a, b, q, c)),
		"(a . '(b . c))":            fine(list(a, q, dot(b, c))),
		"(a . (quote . b))":         fine(dot(a, q, b)),
		"(a . (quote b))":           fine(list(a, q, b)),
		"(quote . (a))":             fine(quoted(a)),
		"(quote . 'a)":              fine(list(q, q, a)),
		"(quote . a)":               fine(dot(q, a)),
		"(a . (b)) (c . d)":         fine(list(a, b), dot(c, d)),
		"'(a . (b))":                fine(quoted(list(a, b))),
		"(a . ... )":                fine(dot(a, sym("..."))),
		"(a .b)":                    fine(list(a, sym(".b"))),
		"(a b.)":                    fine(list(a, sym("b."))),
		"(a .;x\nb)":                fine(dot(a, b)),
		"(a . (b c) ;x\n )":         fine(list(a, b, c)),
		"(a . (b . (c . (d . 1))))": fine(dot(a, b, c, d, num(1))),
	} {
		reads(t, s, want)
	}
}

// TestClosesThatCannotStand: where no list is open, right behind a quote, right behind a dot.
func TestClosesThatCannotStand(t *testing.T) {
	for s, at := range map[string]int{
		")": 0, " )": 1, "a)": 1, "())": 2, "(a))": 3, "'a)": 2, "'())": 3, ";\n)": 2, "(a . b))": 7, "#t)": 2, "7)": 1, ")(": 0, "))": 0,
		"')": 1, "(')": 2, "(a ')": 4, "(a '')": 5, "' ;\n)": 4, "(a . ')": 6, "((')": 3,
		"(a .)": 4, "(a . )": 5, "((a . ))": 6, "('a . )": 6, "(() .)": 5,
	} {
		reads(t, s, form(at))
	}
}

// TestDotsThatCannotStand: where no list is open, right behind a bracket, a quote, a dot.
func TestDotsThatCannotStand(t *testing.T) {
	for s, at := range map[string]int{
		".": 0, "a . b": 2, "() . a": 3, "'a . b": 3, "(a . b) . c": 8, "#f .": 3, ". )": 0,
		"(.": 1, "( . a)": 2, "(a (. b))": 4, "'(. a)": 2, "(.)": 1,
		"'.": 1, "('. a)": 2, "(a '. b)": 4, "''.": 2, "(a . '.": 6,
		"(a . . b)": 5, "(a . .)": 5, "(a . ;\n. b)": 7,
		"(a . (. b))": 6,
	} {
		reads(t, s, form(at))
	}
}

// TestMoreBehindADot: anything but a bracket that closes, behind what stands behind a dot of the same list.
func TestMoreBehindADot(t *testing.T) {
	for s, at := range map[string]int{
		"(a . b c)": 7, "(a . b 7)": 7, "(a . b #f)": 7, "(a . b #t)": 7, "(a . b (": 7, "(a . b '": 7, "(a . b . c)": 7, "(a . b .": 7, "(a . b": 6, "(a . b ": 7,
		"(a . () b)": 8, "(a . (b) c)": 9, "(a . (b)": 8, "(a . (b) . c)": 9, "(a . (b)'c)": 8, "(a . (b)(": 8,
		"(a . 'b c)": 8, "(a . 'b . c)": 8, "(a . 'b": 7, "(a . ''b 'c)": 9,
		"(a . (b . c d))": 12, "(a . (b . c) d)": 13, "((a . b c))": 8, "'(a . b c)": 8,
		"(a . 7 c)": 7, "(a . #t c)": 8,
	} {
		reads(t, s, form(at))
	}
	// Of another list a datum may stand there.
	reads(t, "((a . b) c)", fine(list(dot(a, b), c)))
	reads(t, "((a . b) . c)", fine(dot(dot(a, b), c)))
	reads(t, "(a . b) c", fine(dot(a, b), c))
	reads(t, "((a . (b)) c 'd)", fine(list(list(a, b), c, quoted(d))))
}

// TestTheEndThatCannotStand: where a list is open, right behind a quote. Its place is the source's length.
func TestTheEndThatCannotStand(t *testing.T) {
	for _, s := range []string{
		"(", "(a", "(a ", "(a;x\n", "(a;x", "((a)", "((", "(a .", "(a . ", "(a . b", "(a . (b)", "a (", "'(", "('a", "(a\n\n", "(()",
		"'", "' ", "';", "';\n", "''", "a '", "('", "(a . '", "'a '",
	} {
		reads(t, s, form(len(s)))
	}
}

// TestTheFirstFault: of two faults the one that stands ahead.
func TestTheFirstFault(t *testing.T) {
	for s, want := range map[string]told{
		") . '":                                form(0),
		"(a . b c) )":                          form(7),
		"') (.":                                form(1),
		"(. )":                                 form(1),
		"(a . ) . ":                            form(5),
		") " + times(101, "("):                 form(0),
		times(101, "(") + times(102, ")"):      wrong(api.ErrReadDeep, 100),
		times(101, "'") + ")":                  wrong(api.ErrReadDeep, 100),
		times(10001, "1 ") + ")":               wrong(api.ErrReadMuch, 20000),
		") " + times(10001, "1 "):              form(0),
		times(101, "(") + times(10001, "1 "):   wrong(api.ErrReadDeep, 100),
		times(10001, "1 ") + times(101, "("):   wrong(api.ErrReadMuch, 20000),
		times(10001, "1 ") + "'":               wrong(api.ErrReadMuch, 20000),
		times(100, "(") + ". " + times(2, "("): form(100),
	} {
		reads(t, s, want)
	}
}

// TestTheFirstAtOneToken: what can't stand there goes ahead of what is too deep, and that ahead of what is too much.
func TestTheFirstAtOneToken(t *testing.T) {
	for s, want := range map[string]told{
		times(99, "(") + "(a . b (":                        form(106),
		times(99, "(") + "(a . b '":                        form(106),
		"(" + times(9998, "1 ") + ". 2 3)":                 form(20001),
		"(" + times(9998, "1 ") + ". 2 (":                  form(20001),
		"(" + times(9998, "1 ") + ". 2 '":                  form(20001),
		"(" + times(9998, "1 ") + "2 3)":                   wrong(api.ErrReadMuch, 19999),
		times(100, "(") + times(9900, "1 ") + "(":          wrong(api.ErrReadDeep, 19900),
		times(100, "(") + times(9900, "1 ") + "'":          wrong(api.ErrReadDeep, 19900),
		times(100, "(") + times(9899, "1 ") + "'":          wrong(api.ErrReadDeep, 19898),
		times(100, "(") + times(9900, "1 ") + "1":          wrong(api.ErrReadMuch, 19900),
		times(99, "(") + times(9901, "1 ") + "(":           wrong(api.ErrReadMuch, 19901),
		times(99, "(") + times(9900, "1 ") + "'":           wrong(api.ErrReadMuch, 19899),
		times(99, "(") + "(" + times(9899, "1 ") + ". 2 (": form(100 + 2*9899 + 4),
		times(100, "(") + times(9900, "1 ") + ")" + "a":    wrong(api.ErrReadMuch, 19901),
	} {
		reads(t, s, want)
	}
}

// TestErrorsOfLex: they go ahead of read's, wherever they stand.
func TestErrorsOfLex(t *testing.T) {
	for s, want := range map[string]told{
		") \"":                     wrong(api.ErrLexByte, 2),
		"\" )":                     wrong(api.ErrLexByte, 0),
		"(a . b c) 1x":             wrong(api.ErrLexText, 10),
		"1x (a . b c)":             wrong(api.ErrLexText, 0),
		"' 576460752303423488":     wrong(api.ErrLexOver, 2),
		"-576460752303423489 )":    wrong(api.ErrLexOver, 0),
		"a \x00":                   wrong(api.ErrLexByte, 2),
		"(a #":                     wrong(api.ErrLexText, 3),
		times(101, "(") + "#true":  wrong(api.ErrLexText, 101),
		times(10001, "1 ") + "\"":  wrong(api.ErrLexByte, 20002),
		times(65537, ")"):          wrong(api.ErrMuch, 0),
		times(65537, "\""):         wrong(api.ErrMuch, 0),
		times(65536, ")"):          form(0),
		times(65537, " "):          wrong(api.ErrMuch, 0),
		times(65536, " "):          fine(),
		times(65535, " ") + "a":    fine(a),
		times(65535, " ") + "(":    form(65536),
		";" + times(65535, "\""):   fine(),
		"(" + times(33, "a") + ")": wrong(api.ErrLexText, 1),
		"(" + times(32, "a") + ")": fine(list(sym(times(32, "a")))),
	} {
		reads(t, s, want)
	}
}

// TestDepthOfSources: 99, 100 and 101 brackets, quotes, tails that are written as lists.
func TestDepthOfSources(t *testing.T) {
	for _, w := range []struct{ open, inner, close string }{
		{"(", "", ")"},
		{"(", "a", ")"},
		{"'", "a", ""},
		{"(a . ", "b", ")"},
		{"(a b ", "c", "d)"},
		{"(", "a", ". b)"},
	} {
		for _, n := range []int{99, 100} {
			s := times(n, w.open) + w.inner + times(n, w.close)
			if l, e, at := read.Read(s); e != api.OK || at != 0 || len(l) != 1 {
				t.Errorf("%d of %q: %d data, error %d at %d", n, w.open, len(l), e, at)
			}
			samePlain(t, s)
		}
		reads(t, times(101, w.open)+w.inner+times(101, w.close), wrong(api.ErrReadDeep, 100*len(w.open)))
	}
	for s, want := range map[string]told{
		times(50, "'(") + "a" + times(50, ")"):           fine(quotedLists(50, a)),
		times(50, "'(") + "(" + times(51, ")"):           wrong(api.ErrReadDeep, 100),
		times(50, "'(") + "'a" + times(50, ")"):          wrong(api.ErrReadDeep, 100),
		times(49, "'(") + "'a" + times(49, ")"):          fine(quotedLists(49, quoted(a))),
		times(49, "'(") + "'(a)" + times(49, ")"):        fine(quotedLists(50, a)),
		times(49, "'(") + "''(a)" + times(49, ")"):       wrong(api.ErrReadDeep, 100),
		times(50, "(a . '") + "b" + times(50, ")") + "c": told{data: append(plainRead(times(50, "(a . '")+"b"+times(50, ")")).data, c)},
		times(50, "(a . '") + "()" + times(50, ")"):      wrong(api.ErrReadDeep, 300),
	} {
		reads(t, s, want)
	}
}

// quotedLists is a datum within so many lists, each with a quote ahead of it.
func quotedLists(n int, d api.Datum) api.Datum {
	for range n {
		d = quoted(list(d))
	}
	return d
}

// TestDepthAsItIsWritten: what is closed does not count any more; a tail that is written as a list does.
func TestDepthAsItIsWritten(t *testing.T) {
	hundred := times(100, "(") + times(100, ")")
	reads(t, hundred+hundred, fine(deep(99, list()), deep(99, list())))
	reads(t, "("+hundred+")", wrong(api.ErrReadDeep, 100))
	reads(t, "'"+hundred, wrong(api.ErrReadDeep, 100))
	reads(t, times(100, "'")+"a b", fine(quotes(100, a), b))
	reads(t, times(100, "'")+"()", wrong(api.ErrReadDeep, 100))
	reads(t, times(99, "'")+"()", fine(quotes(99, list())))
	reads(t, times(200, "'a "), told{data: slices.Repeat([]api.Datum{quoted(a)}, 200)})
	reads(t, times(200, "()"), told{data: slices.Repeat([]api.Datum{list()}, 200)})
	reads(t, times(99, "(")+times(200, "'a ")+times(99, ")"), fine(deep(98, list(slices.Repeat([]api.Datum{quoted(a)}, 200)...))))
	reads(t, times(99, "(")+"''a"+times(99, ")"), wrong(api.ErrReadDeep, 100))
	reads(t, times(100, "(")+"a 'a", wrong(api.ErrReadDeep, 102))
	reads(t, times(100, "(")+"a"+times(100, ")"), fine(deep(100, a)))
	reads(t, times(100, "(a . ")+"b"+times(100, ")"), fine(dot(append(slices.Repeat([]api.Datum{a}, 100), b)...)))
	reads(t, times(100, "(a . ")+"()"+times(100, ")"), wrong(api.ErrReadDeep, 500))
	reads(t, times(99, "(a . ")+"()"+times(99, ")"), fine(list(slices.Repeat([]api.Datum{a}, 99)...)))
	reads(t, times(100, "(a . ")+"'b"+times(100, ")"), wrong(api.ErrReadDeep, 500))
}

// quotes is a datum behind so many quotes.
func quotes(n int, d api.Datum) api.Datum {
	for range n {
		d = quoted(d)
	}
	return d
}

// TestHowManyInASource: 9999, 10000, 10001 of each kind; a quote counts two, ahead of what stands behind it.
func TestHowManyInASource(t *testing.T) {
	for _, text := range []string{"1 ", "a ", "#f ", "#t ", "()"} {
		for _, n := range []int{9999, 10000} {
			if l, e, at := read.Read(times(n, text)); e != api.OK || at != 0 || len(l) != n {
				t.Errorf("%d times %q: %d, error %d at %d", n, text, len(l), e, at)
			}
		}
		reads(t, times(10001, text), wrong(api.ErrReadMuch, 10000*len(text)))
		reads(t, times(10000, "1 ")+text, wrong(api.ErrReadMuch, 20000))
		reads(t, "("+times(9999, text)+")", fine(list(slices.Repeat(plainRead(text).data, 9999)...)))
		reads(t, "("+times(10000, text)+")", wrong(api.ErrReadMuch, 1+9999*len(text)))
	}
	for n, want := range map[int]told{
		9996: fine(append(many(9996), quoted(a))...),
		9997: fine(append(many(9997), quoted(a))...),
		9998: wrong(api.ErrReadMuch, 2*9998+1),
		9999: wrong(api.ErrReadMuch, 2*9999),
	} {
		reads(t, times(n, "1 ")+"'a", want)
	}
	reads(t, times(9998, "1 ")+"'", form(2*9998+1))
	reads(t, times(9999, "1 ")+"'", wrong(api.ErrReadMuch, 2*9999))
	reads(t, times(10000, "1 ")+"'", wrong(api.ErrReadMuch, 20000))
	reads(t, times(10000, "1 ")+")", form(20000))
	reads(t, times(10000, "1 ")+".", form(20000))
	reads(t, times(10000, "1 ")+"(", wrong(api.ErrReadMuch, 20000))
	reads(t, times(9999, "1 ")+"(", form(2*9999+1))
}

// TestHowManyAsWritten: a tail that is written as a list counts one more than the datum has.
func TestHowManyAsWritten(t *testing.T) {
	reads(t, times(9996, "1 ")+"(a . (b))", fine(append(many(9996), list(a, b))...))
	reads(t, times(9997, "1 ")+"(a . (b))", wrong(api.ErrReadMuch, 2*9997+6))
	reads(t, times(9998, "1 ")+"(a . ())", wrong(api.ErrReadMuch, 2*9998+5))
	reads(t, times(9998, "1 ")+"(a)", fine(append(many(9998), list(a))...))
	reads(t, times(9997, "1 ")+"(a . b)", fine(append(many(9997), dot(a, b))...))
	reads(t, times(9996, "1 ")+"(a . 'b)", wrong(api.ErrReadMuch, 2*9996+6))
}

// TestNothingIsShared: no two lists that come out, of one call or of two, nor the room behind them (R2).
func TestNothingIsShared(t *testing.T) {
	s := "(a . (b . (c d . (1 2)))) '(x 'y) () ((a . b) . ((c) . 'd)) (a . 'b) 'x 'x"
	first, _, _ := read.Read(s)
	second, _, _ := read.Read(s)
	apart(t, first, second)
	want := dump(second...)
	for _, l := range listsOf(first) {
		room := l[:cap(l)]
		for i := range room {
			room[i] = api.Datum{Kind: 77}
		}
	}
	third, _, _ := read.Read(s)
	if dump(second...) != want || dump(third...) != want {
		t.Error("lists share memory")
	}
}

// listsOf are all lists of some data, the innermost ones first.
func listsOf(l []api.Datum) [][]api.Datum {
	var out [][]api.Datum
	for _, d := range l {
		out = append(out, listsOf(d.Kids)...)
	}
	return append(out, l)
}

// apart tells that no two lists have a datum's place, or room behind, in common.
func apart(t *testing.T, all ...[]api.Datum) {
	t.Helper()
	owner := map[*api.Datum]int{}
	number := 0
	for _, data := range all {
		for _, l := range listsOf(data) {
			number++
			room := l[:cap(l)]
			for i := range room {
				if other := owner[&room[i]]; other != 0 && other != number {
					t.Fatalf("list %d shares memory with list %d", number, other)
				}
				owner[&room[i]] = number
			}
		}
	}
}
