package show_test

import (
	"slices"
	"strconv"
	"strings"
	"testing"

	"dapple/api"
)

// symbols are texts that are some.
func symbols() []string {
	return []string{"a", "b", "A", "...", "-", "+", "+1", "-x", ".a", "a.b", "a#0#", "a=b", "set-car!", "nil", "~", "!", "\\", strings.Repeat("x", 32)}
}

// noSymbols are texts that are none.
func noSymbols() []string {
	return []string{"", " ", ".", "1", "7", "-7", "-1x", "1+", "#", "#t", "#f", "#none", "#0#", "a b", " a", "a ", "a\n", "(", ")", "()", "'", "'a", "a'", "a;", ";", "\"", "a\"", "a\x00", "\x7f", "\xff", "é", strings.Repeat("x", 33)}
}

// TestNames: each symbol is told by the name of its number.
func TestNames(t *testing.T) {
	list := symbols()
	for i, s := range list {
		showsBy(t, nil, list, bits(api.TagSymbol, int64(i)), s)
		showsBy(t, nil, list[:i+1], bits(api.TagSymbol, int64(i)), s)
		showsBy(t, nil, []string{s}, word("s0"), s)
		showsBy(t, heap("pair s0 s0"), []string{s}, ref(0), "("+s+" . "+s+")")
		showsBy(t, heap("closure 1 c1, box s0 nil"), []string{s}, ref(0), "#proc1(#box("+s+"))")
	}
	showsBy(t, heap("pair s1 c1, pair s0 c2, pair s1 nil"), list, ref(0), "(b a b)")
}

// TestNamesThatAreNone: wherever they stand, and whatever is met.
func TestNamesThatAreNone(t *testing.T) {
	for _, s := range noSymbols() {
		for _, list := range [][]string{{s}, {s, "a"}, {"a", s}, {"a", s, "b"}, {"a", "b", s}} {
			for _, w := range []string{"nil", "7", "c0", "c1", "s0", "s1"} {
				refusedBy(t, heap("pair 1 nil, box s0 nil"), list, word(w))
			}
		}
	}
}

// TestNamesThatStandTwice: side by side and apart, met or not.
func TestNamesThatStandTwice(t *testing.T) {
	for _, list := range [][]string{{"a", "a"}, {"a", "b", "a"}, {"b", "a", "a"}, {"a", "b", "c", "b"}, {"a", "a", "a"}} {
		for _, w := range []string{"nil", "7", "c0", "c1", "s0", "s1"} {
			refusedBy(t, heap("pair 1 nil, box s0 nil"), list, word(w))
		}
	}
	// Texts that are the same, and not one memory.
	refusedBy(t, nil, []string{"ab", "c", strings.Repeat("a", 1) + strings.Repeat("b", 1)}, word("nil"))
	showsBy(t, nil, []string{"a", "A", "aa", "a.", ".a"}, word("s2"), "aa")
}

// TestTooFewNames: of symbols that are met in every field; those that are not met need none.
func TestTooFewNames(t *testing.T) {
	for _, h := range []string{"pair s2 nil", "pair nil s2", "pair s0 c1, pair s1 s2", "box s2 nil", "closure 0 s2", "pair 1 c1, pair 2 c2, box c3 nil, closure 5 c4, pair 6 s2"} {
		for n := range 5 {
			list := []string{"a", "b", "c", "d"}[:min(n, 4)]
			if n < 3 {
				refusedBy(t, heap(h), list, ref(0))
				refusedBy(t, heap(h), list, word("s2"))
			}
		}
	}
	showsBy(t, heap("pair s2 nil"), []string{"a", "b", "c"}, ref(0), "(c)")
	refusedBy(t, nil, nil, word("s0"))
	refusedBy(t, nil, []string{"a"}, word("s1"))
	refusedBy(t, nil, []string{"a"}, word("s2147483647"))
	// What is not met: a cell, a box's B, what stands in a free cell.
	showsBy(t, heap("pair 1 nil, pair s0 s1"), nil, ref(0), "(1)")
	showsBy(t, heap("box 1 s0, free s0 s0"), nil, ref(0), "#box(1)")
	showsBy(t, heap("pair s1 nil"), nil, word("#t"), "#t")
	showsBy(t, heap("pair s0 nil, closure s7 nil"), []string{"a"}, ref(0), "(a)")
}

// TestMoreNames: than are met, and none at all.
func TestMoreNames(t *testing.T) {
	for _, list := range [][]string{nil, {}, {"a"}, {"a", "b", "c", "d"}} {
		showsBy(t, heap("pair 1 c0"), list, ref(0), "#0=(1 . #0#)")
		showsBy(t, nil, list, word("nil"), "()")
	}
}

// TestManyNames: as many as a table has, and more.
func TestManyNames(t *testing.T) {
	for _, n := range []int{api.MaxNames - 1, api.MaxNames, api.MaxNames + 1, 100000} {
		var list []string
		for i := range n {
			list = append(list, "n"+strconv.Itoa(i))
		}
		last := bits(api.TagSymbol, int64(n-1))
		showsBy(t, nil, list, last, "n"+strconv.Itoa(n-1))
		refusedBy(t, nil, list, bits(api.TagSymbol, int64(n)))
		twice := slices.Clone(list)
		twice[n-1] = "n0"
		refusedBy(t, nil, twice, last)
		twice[n-1] = "0"
		refusedBy(t, nil, twice, word("nil"))
	}
}

// TestAlikeNeedsNoNames: symbols are held against each other by their numbers.
func TestAlikeNeedsNoNames(t *testing.T) {
	alike(t, nil, word("s5"), nil, word("s5"), true)
	alike(t, nil, word("s5"), nil, word("s6"), false)
	alike(t, nil, word("s2147483647"), heap("free 1 1"), word("s2147483647"), true)
	alike(t, heap("pair s5 s6"), ref(0), heap("pair s5 s6"), ref(0), true)
	alike(t, heap("pair s5 s6"), ref(0), heap("pair s6 s5"), ref(0), false)
}
