package lex_test

import (
	"iter"
	"slices"
	"strings"
	"testing"

	"dapple/api"
	"dapple/lex"
)

// gone are sources that are gone through here: without an error, with one at the beginning, in the midst, at the end, too long.
func gone() []string {
	return []string{"", "a", "(a 'b . -7) #t;#\n#f", "\"", "a (b 1x c)", "'() 5 #", ";x", strings.Repeat("a", 65537), strings.Repeat("(", 100)}
}

// TestAllNamesNoEnd: behind an error no TokenEnd is given, nor anything else.
func TestAllNamesNoEnd(t *testing.T) {
	for s, want := range map[string][]api.Token{
		"a (b 1x c)":                {symbol("a", 0), bare(api.TokenOpen, 2), symbol("b", 3)},
		"\"a":                       nil,
		"a \"":                      {symbol("a", 0)},
		"7 576460752303423488":      {integer(7, 0)},
		strings.Repeat("a ", 32769): nil,
	} {
		if l := slices.Collect(lex.All(s)); !slices.Equal(l, want) {
			t.Errorf("All of %q: %v", short(s), l)
		}
	}
}

// TestAllLeftEarly: at each token; what was given up to there is what all is, and nothing more is given.
func TestAllLeftEarly(t *testing.T) {
	for _, s := range gone() {
		all, want := lex.All(s), plainTokens(s).list
		for leave := range want {
			var got []api.Token
			for token := range all {
				got = append(got, token)
				if len(got) == leave+1 {
					break
				}
			}
			if !slices.Equal(got, want[:leave+1]) {
				t.Errorf("%q left at %d: %v", short(s), leave, got)
			}
			calls := 0
			all(func(api.Token) bool {
				calls++
				return calls <= leave
			})
			if calls != leave+1 {
				t.Errorf("%q left at %d: %d are given", short(s), leave, calls)
			}
		}
		if l := slices.Collect(all); !slices.Equal(l, want) {
			t.Errorf("%q after it was left: %v", short(s), l)
		}
	}
}

func TestAllAgain(t *testing.T) {
	for _, s := range gone() {
		all, want := lex.All(s), plainTokens(s).list
		for range 3 {
			if l := slices.Collect(all); !slices.Equal(l, want) {
				t.Errorf("%q: %v", short(s), l)
			}
		}
	}
}

// TestAllWithinItself: at each token all of it is gone through once more, and twice within that.
func TestAllWithinItself(t *testing.T) {
	for _, s := range gone() {
		all, want := lex.All(s), plainTokens(s).list
		if len(want) > 20 {
			want, all = want[:20], firstOf(all, 20)
		}
		var outer []api.Token
		for a := range all {
			outer = append(outer, a)
			var inner []api.Token
			for b := range all {
				inner = append(inner, b)
				if l := slices.Collect(all); !slices.Equal(l, want) {
					t.Errorf("%q twice within itself: %v", short(s), l)
				}
				if len(inner) == len(outer) {
					break
				}
			}
			if !slices.Equal(inner, want[:len(outer)]) {
				t.Errorf("%q within itself: %v", short(s), inner)
			}
		}
		if !slices.Equal(outer, want) {
			t.Errorf("%q around itself: %v", short(s), outer)
		}
	}
}

// firstOf are at most so many tokens of some.
func firstOf(all iter.Seq[api.Token], n int) iter.Seq[api.Token] {
	return func(yield func(api.Token) bool) {
		given := 0
		for token := range all {
			given++
			if !yield(token) || given == n {
				return
			}
		}
	}
}

// TestAllSideBySide: one that is pulled slowly is not moved by others.
func TestAllSideBySide(t *testing.T) {
	s := "(a 'b . -7) #t;#\n#f"
	all, want := lex.All(s), plainTokens(s).list
	next, stop := iter.Pull(all)
	defer stop()
	other, stopOther := iter.Pull(all)
	defer stopOther()
	for i, token := range want {
		if got, ok := next(); got != token || !ok {
			t.Errorf("%d: %v, %t", i, got, ok)
		}
		if i%2 == 1 {
			if got, ok := other(); got != want[i/2] || !ok {
				t.Errorf("the other one, %d: %v, %t", i/2, got, ok)
			}
		}
	}
	if got, ok := next(); ok {
		t.Errorf("behind the end: %v", got)
	}
}
