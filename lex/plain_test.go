package lex_test

import (
	"iter"
	"math/big"
	"math/rand"
	"regexp"
	"slices"
	"strings"
	"testing"

	"dapple/api"
	"dapple/lex"
)

// told is what Tokens answers.
type told struct {
	list []api.Token
	e    api.Errno
	at   int
}

var (
	leftOut  = regexp.MustCompile(`^(?:[\x20\x09\x0a\x0d]|;[^\x0a]*)+`)
	wordText = regexp.MustCompile(`^[\x21\x23-\x26\x2a-\x3a\x3c-\x7e]+`)
	intText  = regexp.MustCompile(`^-?[0-9]+$`)
	badText  = regexp.MustCompile(`^(?:[0-9#]|-[0-9])`)
)

// plainTokens is the chapter once more, by patterns: the tokens ahead of the first error (or all of them), that error and its place.
func plainTokens(s string) told {
	if len(s) > 65536 {
		return told{e: api.ErrMuch}
	}
	var list []api.Token
	for rest := s; ; {
		rest = rest[len(leftOut.FindString(rest)):]
		at := len(s) - len(rest)
		if rest == "" {
			return told{list: append(list, api.Token{Kind: api.TokenEnd, At: at})}
		}
		text := rest[:1]
		t := api.Token{At: at}
		if i := strings.Index("()'", text); i >= 0 {
			t.Kind = []api.TokenKind{api.TokenOpen, api.TokenClose, api.TokenQuote}[i]
		} else if text = wordText.FindString(rest); text == "" {
			return told{list, api.ErrLexByte, at}
		} else if e := plainWord(text, &t); e != api.OK {
			return told{list, e, at}
		}
		list = append(list, t)
		rest = rest[len(text):]
	}
}

// plainWord tells what a word is, by the five rules.
func plainWord(s string, t *api.Token) api.Errno {
	if i := slices.Index([]string{".", "#t", "#f"}, s); i >= 0 {
		t.Kind = []api.TokenKind{api.TokenDot, api.TokenTrue, api.TokenFalse}[i]
		return api.OK
	}
	if intText.MatchString(s) {
		n, _ := new(big.Int).SetString(s, 10)
		bound := new(big.Int).Lsh(big.NewInt(1), 59)
		if n.Cmp(bound) >= 0 || n.Cmp(new(big.Int).Neg(bound)) < 0 {
			return api.ErrLexOver
		}
		t.Kind, t.N = api.TokenInt, n.Int64()
		return api.OK
	}
	if badText.MatchString(s) || len(s) > 32 {
		return api.ErrLexText
	}
	t.Kind, t.Text = api.TokenSymbol, s
	return api.OK
}

// short is as much of a source as can be told of it.
func short(s string) string {
	if len(s) > 80 {
		return s[:40] + ".." + s[len(s)-20:]
	}
	return s
}

// same holds Tokens and All of a source against what is wanted: the tokens ahead of the first error, and that one.
func same(t *testing.T, s string, want told) {
	t.Helper()
	l, e, at := lex.Tokens(s)
	wantList := want.list
	if want.e != api.OK {
		wantList = nil
	}
	if !slices.Equal(l, wantList) || e != want.e || at != want.at {
		t.Errorf("Tokens of %q: %d tokens, error %d at %d; not %d, %d at %d", short(s), len(l), e, at, len(wantList), want.e, want.at)
	}
	all := lex.All(s)
	if all == nil {
		t.Fatalf("All of %q is nil", short(s))
	}
	if l := slices.Collect(all); !slices.Equal(l, want.list) {
		t.Errorf("All of %q: %d tokens, not %d", short(s), len(l), len(want.list))
	}
}

// samePlain holds a source against the patterns, also as a symbol.
func samePlain(t *testing.T, s string) {
	t.Helper()
	want := plainTokens(s)
	same(t, s, want)
	is := len(s) > 0 && len(want.list) == 2 && want.list[0] == api.Token{Kind: api.TokenSymbol, Text: s}
	if lex.IsSymbol(s) != is {
		t.Errorf("IsSymbol of %q: %t", short(s), !is)
	}
}

// textsOf are all texts of at most so many of these bytes.
func textsOf(letters string, most int) iter.Seq[string] {
	return func(yield func(string) bool) {
		var longer func(s string) bool
		longer = func(s string) bool {
			if !yield(s) {
				return false
			}
			for i := 0; i < len(letters) && len(s) < most; i++ {
				if !longer(s + letters[i:i+1]) {
					return false
				}
			}
			return true
		}
		longer("")
	}
}

func TestAllShortSources(t *testing.T) {
	for s := range textsOf("(')ab0-#t.; \n\r\"\x7f", 4) {
		samePlain(t, s)
	}
	for s := range textsOf("-.#tf+09a", 5) {
		samePlain(t, s)
	}
}

// goodPieces are pieces that have no error, wherever they stand with a blank, a line end or a bracket around them.
func goodPieces() []string {
	return []string{
		"(", ")", "'", ".", "#t", "#f", "a", "b.c", "...", "-", "+", "+1", "--1", "-.5", "set-car!", "<=?", "a#", "x\\y|z",
		"0", "-0", "-007", "7", "12345678901234567", "576460752303423487", "-576460752303423488", strings.Repeat("0", 50) + "9",
		strings.Repeat("q", 32), "`,@{}[]^~_&%$!*/:=?",
	}
}

// gaps are what may stand between two tokens.
func gaps() []string {
	return []string{" ", "\t", "\n", "\r", "\r\n", "  ", ";\n", "; a (b \"\x00\xff\n", ";;'\r)\n", "\n;x\n\n"}
}

// drawn is a source of so many pieces, without an error: words have gaps between them, brackets and quotes perhaps.
func drawn(r *rand.Rand, pieces int) string {
	var b strings.Builder
	good, between := goodPieces(), gaps()
	for range pieces {
		piece := good[r.Intn(len(good))]
		b.WriteString(piece)
		bare := piece == "(" || piece == ")" || piece == "'"
		for n := r.Intn(3); n > 0 || !bare; n-- {
			b.WriteString(between[r.Intn(len(between))])
			bare = true
		}
	}
	if r.Intn(3) == 0 {
		b.WriteString("; the end (")
	}
	return b.String()
}

// drawnAny is a source of so many pieces, with errors or without.
func drawnAny(r *rand.Rand, pieces int) string {
	bad := []string{"\"", "\x00", "\x7f", "\x80", "\xff", "λ", "1x", "-1-", "#", "#tt", "1.5", "576460752303423488", "-576460752303423489", strings.Repeat("w", 33), ";", "-", "1"}
	l := slices.Concat(goodPieces(), gaps(), bad)
	var b strings.Builder
	for range pieces {
		b.WriteString(l[r.Intn(len(l))])
	}
	return b.String()
}

func TestDrawnSources(t *testing.T) {
	r := rand.New(rand.NewSource(5))
	errors := map[api.Errno]int{}
	for range 4000 {
		s := drawnAny(r, r.Intn(9))
		samePlain(t, s)
		errors[plainTokens(s).e]++
	}
	for _, e := range []api.Errno{api.OK, api.ErrLexByte, api.ErrLexText, api.ErrLexOver} {
		if errors[e] < 50 {
			t.Errorf("error %d was drawn only %d times", e, errors[e])
		}
	}
	for range 2000 {
		samePlain(t, drawn(r, r.Intn(30)))
	}
	for range 4000 {
		b := make([]byte, r.Intn(12))
		r.Read(b)
		samePlain(t, string(b))
	}
}

// FuzzPlain draws on, if it is told to; else it goes through what it begins with.
func FuzzPlain(f *testing.F) {
	for _, s := range []string{"", "(a 'b . -7)", "#t;#", "a;b\nc", "a \"", "1+", "576460752303423488", "a\x00"} {
		f.Add(s)
	}
	f.Fuzz(samePlain)
}
