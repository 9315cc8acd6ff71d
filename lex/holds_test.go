package lex_test

import (
	"math/rand"
	"slices"
	"strings"
	"testing"

	"dapple/api"
	"dapple/lex"
)

// tokensOf are those of a source that must have no error.
func tokensOf(t *testing.T, s string) []api.Token {
	t.Helper()
	l, e, at := lex.Tokens(s)
	if e != api.OK || at != 0 || len(l) == 0 || l[len(l)-1] != end(len(s)) {
		t.Fatalf("%q: %v, %d, %d", short(s), l, e, at)
	}
	return l
}

// bytesOf are a token's own: one, or up to where its word ends.
func bytesOf(s string, token api.Token) string {
	rest := s[token.At:]
	switch token.Kind {
	case api.TokenEnd:
		return ""
	case api.TokenOpen, api.TokenClose, api.TokenQuote:
		return rest[:1]
	}
	if i := strings.IndexAny(rest, " \t\n\r()';\""); i >= 0 {
		return rest[:i]
	}
	return rest
}

// moved are tokens that stand so many bytes further on.
func moved(list []api.Token, by int) []api.Token {
	list = slices.Clone(list)
	for i := range list {
		list[i].At += by
	}
	return list
}

// sourcesWithoutError are many drawn ones.
func sourcesWithoutError() []string {
	r := rand.New(rand.NewSource(55))
	l := []string{"", ";", ";\n", "a", "()", "'a", ";a\n;b"}
	for range 1500 {
		l = append(l, drawn(r, r.Intn(12)))
	}
	return l
}

// TestBlanksAndCommentsTellNothing: the tokens' bytes, with one blank behind each, have the same tokens but for At.
func TestBlanksAndCommentsTellNothing(t *testing.T) {
	for _, s := range sourcesWithoutError() {
		list := tokensOf(t, s)
		for _, gap := range []string{" ", "\t", "\n", "\r", ";x\n"} {
			var b strings.Builder
			want := slices.Clone(list)
			for i, token := range list {
				want[i].At = b.Len()
				if token.Kind != api.TokenEnd {
					b.WriteString(bytesOf(s, token) + gap)
				}
			}
			if got := tokensOf(t, b.String()); !slices.Equal(got, want) {
				t.Errorf("%q, as %q: %v", s, b.String(), got)
			}
		}
	}
}

// TestBetweenTokens: what stands there is blanks and comments, and nothing of it is lost.
func TestBetweenTokens(t *testing.T) {
	for _, s := range sourcesWithoutError() {
		at := 0
		for _, token := range tokensOf(t, s) {
			if token.At < at {
				t.Fatalf("%q: %v begins ahead of %d", s, token, at)
			}
			if gap := s[at:token.At]; leftOut.FindString(gap) != gap {
				t.Errorf("%q: %q is left out", s, gap)
			}
			at = token.At + len(bytesOf(s, token))
		}
		if at != len(s) {
			t.Errorf("%q: it ends at %d", s, at)
		}
	}
}

// TestTokensByThemselves: a token's bytes are that token, and the end.
func TestTokensByThemselves(t *testing.T) {
	for _, s := range sourcesWithoutError() {
		for _, token := range tokensOf(t, s) {
			own := bytesOf(s, token)
			want := []api.Token{token, end(len(own))}
			want[0].At = 0
			if token.Kind == api.TokenEnd {
				want = want[:1]
			}
			if got := tokensOf(t, own); !slices.Equal(got, want) {
				t.Errorf("%q by itself: %v", own, got)
			}
			if lex.IsSymbol(own) != (token.Kind == api.TokenSymbol) {
				t.Errorf("IsSymbol of %q", own)
			}
		}
	}
}

// TestTwoSources: with a 0a between they have the tokens of both, without the first one's end.
func TestTwoSources(t *testing.T) {
	l := sourcesWithoutError()
	for i, a := range l {
		b := l[(7*i+3)%len(l)]
		first, second := tokensOf(t, a), tokensOf(t, b)
		want := append(slices.Clone(first[:len(first)-1]), moved(second, len(a)+1)...)
		if got := tokensOf(t, a+"\n"+b); !slices.Equal(got, want) {
			t.Errorf("%q and %q: %v", a, b, got)
		}
	}
}
