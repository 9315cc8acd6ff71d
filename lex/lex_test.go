package lex_test

import (
	"slices"
	"strings"
	"testing"
	"unsafe"

	"dapple/api"
	"dapple/lex"
)

// symbol, integer, bare and end are tokens, at their places.
func symbol(text string, at int) api.Token {
	return api.Token{Kind: api.TokenSymbol, Text: text, At: at}
}

func integer(n int64, at int) api.Token { return api.Token{Kind: api.TokenInt, N: n, At: at} }

func bare(kind api.TokenKind, at int) api.Token { return api.Token{Kind: kind, At: at} }

func end(at int) api.Token { return bare(api.TokenEnd, at) }

// fine is what is told of a source without an error.
func fine(list ...api.Token) told { return told{list: list} }

// wrong is what is told of one with an error at a place, behind so many tokens.
func wrong(e api.Errno, at int, ahead ...api.Token) told { return told{ahead, e, at} }

// one is what is told of a source that is just one token.
func one(s string, token api.Token) told { return fine(token, end(len(s))) }

func TestExamples(t *testing.T) {
	for _, c := range []struct {
		s    string
		want told
	}{
		{"(a 'b . -7)", fine(bare(api.TokenOpen, 0), symbol("a", 1), bare(api.TokenQuote, 3), symbol("b", 4), bare(api.TokenDot, 6), integer(-7, 8), bare(api.TokenClose, 10), end(11))},
		{"#t;#", fine(bare(api.TokenTrue, 0), end(4))},
		{"a;b\nc", fine(symbol("a", 0), symbol("c", 4), end(5))},
		{"", fine(end(0))},
		{"a \"", wrong(api.ErrLexByte, 2, symbol("a", 0))},
		{"1+", wrong(api.ErrLexText, 0)},
		{"-1x", wrong(api.ErrLexText, 0)},
		{"#true", wrong(api.ErrLexText, 0)},
		{"#", wrong(api.ErrLexText, 0)},
		{"576460752303423488", wrong(api.ErrLexOver, 0)},
		{"-576460752303423488", one("-576460752303423488", integer(-576460752303423488, 0))},
		{"1.5", wrong(api.ErrLexText, 0)},
	} {
		same(t, c.s, c.want)
	}
	for s, want := range map[string]bool{"...": true, "-": true, "+1": true, "a'": false, ".": false, "7": false, "": false, "a b": false} {
		if lex.IsSymbol(s) != want {
			t.Errorf("IsSymbol of %q: %t", s, !want)
		}
	}
}

func TestNumbersOfErrors(t *testing.T) {
	if api.ErrMuch != 2 || api.ErrLexByte != 50 || api.ErrLexText != 51 || api.ErrLexOver != 52 {
		t.Error(api.ErrMuch, api.ErrLexByte, api.ErrLexText, api.ErrLexOver)
	}
}

// part is what a byte is where a token may begin.
type part int

const (
	noToken part = iota
	blank
	comment
	bracket // or a quote
	ofWord
)

// parts are what each of the 256 bytes is, as the chapter lists them.
func parts() [256]part {
	var l [256]part
	for b := 0x21; b <= 0x7e; b++ {
		l[b] = ofWord
	}
	for _, b := range []byte{0x20, 0x09, 0x0a, 0x0d} {
		l[b] = blank
	}
	l[';'], l['('], l[')'], l['\''], l['"'] = comment, bracket, bracket, bracket, noToken
	return l
}

// bracketKind is the kind of a token of one byte.
func bracketKind(b byte) api.TokenKind {
	return map[byte]api.TokenKind{'(': api.TokenOpen, ')': api.TokenClose, '\'': api.TokenQuote}[b]
}

// TestEachByteAlone: each of the 256 bytes is all of a source.
func TestEachByteAlone(t *testing.T) {
	for i, p := range parts() {
		b, s := byte(i), string([]byte{byte(i)})
		var want told
		switch {
		case p == blank || p == comment:
			want = fine(end(1))
		case p == bracket:
			want = one(s, bare(bracketKind(b), 0))
		case p == noToken:
			want = wrong(api.ErrLexByte, 0)
		case b == '#':
			want = wrong(api.ErrLexText, 0)
		case b == '.':
			want = one(s, bare(api.TokenDot, 0))
		case b >= '0' && b <= '9':
			want = one(s, integer(int64(b-'0'), 0))
		default:
			want = one(s, symbol(s, 0))
		}
		same(t, s, want)
		is := want.e == api.OK && want.list[0].Kind == api.TokenSymbol
		if lex.IsSymbol(s) != is {
			t.Errorf("IsSymbol of %q: %t", s, !is)
		}
	}
}

// TestEachByteBehindAWord: each of the 256 bytes at a source's end, right behind a word.
func TestEachByteBehindAWord(t *testing.T) {
	for i, p := range parts() {
		b, s := byte(i), "ab"+string([]byte{byte(i)})
		var want told
		switch p {
		case blank, comment:
			want = fine(symbol("ab", 0), end(3))
		case bracket:
			want = fine(symbol("ab", 0), bare(bracketKind(b), 2), end(3))
		case noToken:
			want = wrong(api.ErrLexByte, 2, symbol("ab", 0))
		case ofWord:
			want = one(s, symbol(s, 0))
		}
		same(t, s, want)
		if lex.IsSymbol(s) != (p == ofWord) {
			t.Errorf("IsSymbol of %q: %t", s, p != ofWord)
		}
	}
}

// TestEachByteWithinAWord: each of the 256 bytes between two letters.
func TestEachByteWithinAWord(t *testing.T) {
	for i, p := range parts() {
		b, s := byte(i), "a"+string([]byte{byte(i)})+"b"
		var want told
		switch p {
		case blank:
			want = fine(symbol("a", 0), symbol("b", 2), end(3))
		case comment:
			want = fine(symbol("a", 0), end(3))
		case bracket:
			want = fine(symbol("a", 0), bare(bracketKind(b), 1), symbol("b", 2), end(3))
		case noToken:
			want = wrong(api.ErrLexByte, 1, symbol("a", 0))
		case ofWord:
			want = one(s, symbol(s, 0))
		}
		same(t, s, want)
		if lex.IsSymbol(s) != (p == ofWord) {
			t.Errorf("IsSymbol of %q: %t", s, p != ofWord)
		}
	}
}

// TestEachByteInAComment: a comment has any byte but 0a, and ends nowhere but there.
func TestEachByteInAComment(t *testing.T) {
	for i := range 256 {
		s := "a;" + string([]byte{byte(i)}) + "b\nc"
		want := fine(symbol("a", 0), symbol("c", 5), end(6))
		if i == '\n' {
			want = fine(symbol("a", 0), symbol("b", 3), symbol("c", 5), end(6))
		}
		same(t, s, want)
	}
}

func TestComments(t *testing.T) {
	for s, want := range map[string]told{
		";":           fine(end(1)),
		";\n":         fine(end(2)),
		"a;":          fine(symbol("a", 0), end(2)),
		"a;\n":        fine(symbol("a", 0), end(3)),
		"a;;\n;b":     fine(symbol("a", 0), end(6)),
		"a ; (\"b":    fine(symbol("a", 0), end(7)),
		"a ; (\"b\n":  fine(symbol("a", 0), end(8)),
		"a;b\r":       fine(symbol("a", 0), end(4)),
		"a;b\rc\nd":   fine(symbol("a", 0), symbol("d", 6), end(7)),
		";a\n;b\nc;d": fine(symbol("c", 6), end(9)),
		";a\n\"":      wrong(api.ErrLexByte, 3),
		"1;2\n3":      fine(integer(1, 0), integer(3, 4), end(5)),
		"#t;\n#f;":    fine(bare(api.TokenTrue, 0), bare(api.TokenFalse, 4), end(7)),
	} {
		same(t, s, want)
	}
}

func TestBracketsNeedNoBlanks(t *testing.T) {
	same(t, "(a)'b'(1)''c", fine(bare(api.TokenOpen, 0), symbol("a", 1), bare(api.TokenClose, 2), bare(api.TokenQuote, 3), symbol("b", 4), bare(api.TokenQuote, 5),
		bare(api.TokenOpen, 6), integer(1, 7), bare(api.TokenClose, 8), bare(api.TokenQuote, 9), bare(api.TokenQuote, 10), symbol("c", 11), end(12)))
}

// TestLengthsOfSources: 0, 1, 65536 bytes are a source; one more is too much, whatever stands in it.
func TestLengthsOfSources(t *testing.T) {
	const most = 65536
	same(t, "", fine(end(0)))
	same(t, "x", one("x", symbol("x", 0)))
	same(t, strings.Repeat(" ", most), fine(end(most)))
	same(t, ";"+strings.Repeat("(", most-1), fine(end(most)))
	same(t, strings.Repeat("\n", most-1)+"x", fine(symbol("x", most-1), end(most)))
	same(t, strings.Repeat("a", most), wrong(api.ErrLexText, 0))
	same(t, strings.Repeat("0", most), one(strings.Repeat("0", most), integer(0, 0)))
	for _, s := range []string{"(", "a ", "'7\n-", "#t ", "ab;\n"} {
		long := strings.Repeat(s, most/len(s)) + strings.Repeat(" ", most%len(s))
		samePlain(t, long)
		samePlain(t, long[:most-1])
		for _, more := range []string{" ", "x", "\"", "\n", ";"} {
			same(t, long+more, wrong(api.ErrMuch, 0))
		}
	}
	for _, s := range []string{strings.Repeat(" ", most+1), "\"" + strings.Repeat(" ", most), strings.Repeat("a", most+1), strings.Repeat("1", 10*most), ";" + strings.Repeat("x", most)} {
		same(t, s, wrong(api.ErrMuch, 0))
		if lex.IsSymbol(s) {
			t.Errorf("IsSymbol of %q", short(s))
		}
	}
	same(t, strings.Repeat(" ", most-1)+"\"", wrong(api.ErrLexByte, most-1))
}

// TestLengthsOfWords: 32 bytes are a symbol's most; a number may have any number of them.
func TestLengthsOfWords(t *testing.T) {
	for b := byte(0x21); b <= 0x7e; b++ {
		if parts()[b] != ofWord || b == '#' || b >= '0' && b <= '9' {
			continue
		}
		for _, n := range []int{2, 31, 32} {
			for _, s := range []string{strings.Repeat(string(b), n), string(b) + strings.Repeat("a", n-1), strings.Repeat("a", n-1) + string(b)} {
				same(t, s, one(s, symbol(s, 0)))
				if !lex.IsSymbol(s) {
					t.Errorf("%q is no symbol", s)
				}
			}
		}
		for _, n := range []int{33, 34, 64, 1000} {
			for _, s := range []string{strings.Repeat(string(b), n), string(b) + strings.Repeat("a", n-1), strings.Repeat("a", n-1) + string(b)} {
				same(t, s, wrong(api.ErrLexText, 0))
				same(t, "(a "+s+")", wrong(api.ErrLexText, 3, bare(api.TokenOpen, 0), symbol("a", 1)))
				if lex.IsSymbol(s) {
					t.Errorf("%q is a symbol", s)
				}
			}
		}
	}
	for _, n := range []int{1, 32, 33, 34, 1000} {
		noughts := strings.Repeat("0", n)
		same(t, noughts, one(noughts, integer(0, 0)))
		same(t, "-"+noughts, one("-"+noughts, integer(0, 0)))
		same(t, noughts+"1", one(noughts+"1", integer(1, 0)))
		same(t, "-"+noughts+"12", one("-"+noughts+"12", integer(-12, 0)))
		same(t, noughts+"x", wrong(api.ErrLexText, 0))
	}
	for _, n := range []int{19, 32, 33, 1000} {
		same(t, strings.Repeat("9", n), wrong(api.ErrLexOver, 0))
		same(t, "-"+strings.Repeat("9", n), wrong(api.ErrLexOver, 0))
	}
}

func TestBoundsOfNumbers(t *testing.T) {
	const most = 65536
	for _, c := range []struct {
		s string
		n int64
	}{
		{"576460752303423487", 576460752303423487}, {"576460752303423486", 576460752303423486}, {"0", 0}, {"9", 9}, {"1234567890", 1234567890},
		{"-576460752303423488", -576460752303423488}, {"-576460752303423487", -576460752303423487}, {"-0", 0}, {"-1", -1}, {"-007", -7}, {"007", 7},
	} {
		digits, minus := strings.CutPrefix(c.s, "-")
		for _, noughts := range []int{0, 1, 14, 30, 1000, most - len(c.s)} {
			s := strings.Repeat("0", noughts) + digits
			if minus {
				s = "-" + s
			}
			same(t, s, one(s, integer(c.n, 0)))
			if lex.IsSymbol(s) {
				t.Errorf("%q is a symbol", short(s))
			}
		}
	}
}

// TestNumbersOver: one that a word can't hold is told as such, also where 64 bits can't hold it, or would wrap round to one that is held.
func TestNumbersOver(t *testing.T) {
	for _, s := range []string{
		"576460752303423488", "-576460752303423489", "576460752303423489", "-576460752303423490", "1000000000000000000", "-1152921504606846976", "9223372036854775807", "9223372036854775808",
		"-9223372036854775808", "-9223372036854775809", "18446744073709551615", "18446744073709551616", "18446744073709551623", "-18446744073709551623", "340282366920938463463374607431768211463",
		strings.Repeat("1", 65536), "-" + strings.Repeat("1", 65535), "1" + strings.Repeat("0", 65535), strings.Repeat("9", 1000),
	} {
		same(t, s, wrong(api.ErrLexOver, 0))
		if lex.IsSymbol(s) {
			t.Errorf("%q is a symbol", short(s))
		}
		if len(s) > 1000 {
			continue
		}
		digits, minus := strings.CutPrefix(s, "-")
		noughts := strings.Repeat("0", 31) + digits
		if minus {
			noughts = "-" + noughts
		}
		same(t, noughts, wrong(api.ErrLexOver, 0))
		same(t, "("+s+")", wrong(api.ErrLexOver, 1, bare(api.TokenOpen, 0)))
	}
}

func TestWords(t *testing.T) {
	for _, s := range []string{
		"-", "+", "..", "...", ".5", ".a", "a.b", "a.", "+1", "+0", "--", "--1", "-+1", "-.5", "-a", "-a1", "-#t", "->x", "t", "f", "T", "a#", "a#t", "a1", "e5", "x0", "_0", "/", "*", "!", "~", ":", "<", "@", "[", "]",
		"{", "}", "|", "\\", "`", ",", "quote", "set-car!", "A", "Z",
	} {
		same(t, s, one(s, symbol(s, 0)))
		if !lex.IsSymbol(s) {
			t.Errorf("%q is no symbol", s)
		}
	}
	for s, kind := range map[string]api.TokenKind{".": api.TokenDot, "#t": api.TokenTrue, "#f": api.TokenFalse} {
		same(t, s, one(s, bare(kind, 0)))
		same(t, " "+s+" ", fine(bare(kind, 1), end(len(s)+2)))
	}
	for _, s := range []string{
		"#", "##", "#T", "#F", "#tt", "#ff", "#t#f", "#true", "#.", "#0", "#a", "#" + strings.Repeat("t", 40), "1a", "1.5", "1.", "1-", "1+", "1#t", "0x10", "00a", "1e5", "1_000", "9-1",
		"-1a", "-1.5", "-0x", "-1-", "-007.", strings.Repeat("1", 40) + "a", "-" + strings.Repeat("9", 40) + "-",
	} {
		same(t, s, wrong(api.ErrLexText, 0))
		same(t, "x\n"+s+" \"", wrong(api.ErrLexText, 2, symbol("x", 0)))
	}
}

func TestIsSymbol(t *testing.T) {
	for _, s := range []string{"", " ", " a", "a ", "a\n", "\na", "a b", "a'", "'a", "(a", "a)", "()", "a;", ";a", "a;b", "\"", "a\"", "a\x7f", "\x7fa", "a\x00", "λ", "\xffa", ".", "#t", "#f", "#", "#x", "0", "-0", "1x", "-1x"} {
		if lex.IsSymbol(s) {
			t.Errorf("%q is a symbol", s)
		}
	}
}

// TestPlacesOfErrors: an error as the first, as the last token, within brackets; of two the first one is told.
func TestPlacesOfErrors(t *testing.T) {
	bad := []struct {
		s string
		e api.Errno
	}{
		{"\"", api.ErrLexByte}, {"\x00", api.ErrLexByte}, {"\x7f", api.ErrLexByte}, {"\x80", api.ErrLexByte}, {"\xff", api.ErrLexByte},
		{"#x", api.ErrLexText}, {"1+", api.ErrLexText}, {"-1.5", api.ErrLexText}, {strings.Repeat("w", 33), api.ErrLexText},
		{"576460752303423488", api.ErrLexOver}, {"-576460752303423489", api.ErrLexOver},
	}
	for _, c := range bad {
		same(t, c.s, wrong(c.e, 0))
		same(t, c.s+" a b", wrong(c.e, 0))
		same(t, "a b "+c.s, wrong(c.e, 4, symbol("a", 0), symbol("b", 2)))
		same(t, "(a '"+c.s+")", wrong(c.e, 4, bare(api.TokenOpen, 0), symbol("a", 1), bare(api.TokenQuote, 3)))
		same(t, ";"+c.s+"\n "+c.s, wrong(c.e, len(c.s)+3))
		for _, d := range bad {
			same(t, "7 "+c.s+"\n"+d.s, wrong(c.e, 2, integer(7, 0)))
		}
	}
	same(t, "1x\"", wrong(api.ErrLexText, 0))
	same(t, "1\"", wrong(api.ErrLexByte, 1, integer(1, 0)))
	same(t, "a\x80b", wrong(api.ErrLexByte, 1, symbol("a", 0)))
}

// TestNothingIsShared: what comes out is its owner's, and the room behind it too (R2); a text shares nothing with the source.
func TestNothingIsShared(t *testing.T) {
	s := "(one 'two 3)"
	first, _, _ := lex.Tokens(s)
	second, _, _ := lex.Tokens(s)
	kept := slices.Clone(second)
	room := first[:cap(first)]
	for i := range room {
		room[i] = api.Token{Kind: api.TokenDot, Text: "spoilt"}
	}
	third, _, _ := lex.Tokens(s)
	if !slices.Equal(second, kept) || !slices.Equal(third, kept) {
		t.Error("lists share memory:", second, third)
	}
	from := uintptr(unsafe.Pointer(unsafe.StringData(s)))
	for _, token := range third {
		at := uintptr(unsafe.Pointer(unsafe.StringData(token.Text)))
		if token.Text != "" && at >= from && at < from+uintptr(len(s)) {
			t.Errorf("%q is a piece of the source's memory", token.Text)
		}
	}
}
