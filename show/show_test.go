package show_test

import (
	"fmt"
	"strconv"
	"strings"
	"testing"

	"dapple/api"
	"dapple/show"
)

// bits is the word of a tag and a number by chapter 1, or what no word is.
func bits(tag api.Tag, n int64) api.Word { return api.Word(n)<<4 | api.Word(tag) }

// ref is the reference to a cell, or what looks like one.
func ref(n int) api.Word { return bits(api.TagRef, int64(n)) }

// word reads a word: nil, #f, #t, #none; a number; s0, p3, c0 for a symbol, a primitive, a reference; x and hexadecimal digits for any bits.
func word(s string) api.Word {
	if tag, ok := map[string]api.Tag{"nil": api.TagNil, "#f": api.TagFalse, "#t": api.TagTrue, "#none": api.TagNone}[s]; ok {
		return bits(tag, 0)
	}
	if digits, ok := strings.CutPrefix(s, "x"); ok {
		n, err := strconv.ParseUint(digits, 16, 64)
		if err != nil {
			panic(err)
		}
		return api.Word(n)
	}
	tag, ok := map[byte]api.Tag{'s': api.TagSymbol, 'p': api.TagPrim, 'c': api.TagRef}[s[0]]
	if ok {
		s = s[1:]
	} else {
		tag = api.TagInt
	}
	n, err := strconv.ParseInt(s, 10, 64)
	if err != nil {
		panic(err)
	}
	return bits(tag, n)
}

// heap reads cells as the chapter writes them, kind, A, B, with commas between: "pair 1 c1, box 7 nil, closure 4 c0, free x0 x0".
func heap(s string) []api.Cell {
	kinds := map[string]api.Kind{"free": api.KindFree, "pair": api.KindPair, "box": api.KindBox, "closure": api.KindClosure}
	var out []api.Cell
	for _, part := range strings.FieldsFunc(s, func(r rune) bool { return r == ',' }) {
		f := strings.Fields(part)
		kind, ok := kinds[f[0]]
		if !ok || len(f) != 3 {
			panic(part)
		}
		out = append(out, api.Cell{Kind: kind, A: word(f[1]), B: word(f[2])})
	}
	return out
}

// names are the chapter's, and one more.
func names() []string { return []string{"a", "b", "c#0="} }

// told is a heap and a word for a message, cut where it is long.
func told(h []api.Cell, w api.Word) string {
	s := fmt.Sprintf("%x of %x", w, h)
	return s[:min(len(s), 400)]
}

// short is a text for a message.
func short(s string) string { return s[:min(len(s), 400)] }

// shows holds a word's text, with all names, against one.
func shows(t *testing.T, h []api.Cell, w api.Word, want string) {
	t.Helper()
	showsBy(t, h, names(), w, want)
}

func showsBy(t *testing.T, h []api.Cell, names []string, w api.Word, want string) {
	t.Helper()
	if s, e := show.Show(h, names, w); s != want || e != api.OK {
		t.Errorf("%s: %q, %d, not %q", told(h, w), short(s), e, short(want))
	}
}

// refusedBy holds that Show refuses what it is given, and answers nothing beside.
func refusedBy(t *testing.T, h []api.Cell, names []string, w api.Word) {
	t.Helper()
	if s, e := show.Show(h, names, w); s != "" || e != api.ErrShowForm {
		t.Errorf("%s by %q: %q, %d", told(h, w), names, short(s), e)
	}
}

// unfit holds that w does not fit h: both calls refuse, Alike on both sides.
func unfit(t *testing.T, h []api.Cell, w api.Word) {
	t.Helper()
	refusedBy(t, h, names(), w)
	refusedBy(t, h, nil, w)
	for _, other := range []string{"nil", "c0", "c1"} {
		g := heap("pair 1 c1, box 2 nil")
		refusedPair(t, h, w, g, word(other))
		refusedPair(t, g, word(other), h, w)
	}
	refusedPair(t, h, w, h, w)
}

func refusedPair(t *testing.T, h []api.Cell, v api.Word, g []api.Cell, w api.Word) {
	t.Helper()
	if is, e := show.Alike(h, v, g, w); is || e != api.ErrShowForm {
		t.Errorf("Alike of %s and %s: %v, %d", told(h, v), told(g, w), is, e)
	}
}

// alike holds Alike, both ways round, against what is wanted.
func alike(t *testing.T, h []api.Cell, v api.Word, g []api.Cell, w api.Word, want bool) {
	t.Helper()
	if is, e := show.Alike(h, v, g, w); is != want || e != api.OK {
		t.Errorf("Alike of %s and %s: %v, %d", told(h, v), told(g, w), is, e)
	}
	if is, e := show.Alike(g, w, h, v); is != want || e != api.OK {
		t.Errorf("Alike of %s and %s: %v, %d", told(g, w), told(h, v), is, e)
	}
}

func TestNumbersOfErrors(t *testing.T) {
	if api.OK != 0 || api.ErrShowForm != 110 {
		t.Errorf("%d, %d", api.OK, api.ErrShowForm)
	}
}

func TestFirstExample(t *testing.T) {
	names := []string{"a", "b"}
	showsBy(t, nil, names, word("nil"), "()")
	showsBy(t, nil, names, word("-5"), "-5")
	showsBy(t, nil, names, word("s1"), "b")
	refusedBy(t, nil, names, word("s2"))
	showsBy(t, nil, names, word("p3"), "#prim3")
	refusedBy(t, nil, names, word("c0"))
}

func TestSecondExample(t *testing.T) {
	shows(t, heap("pair 1 c1, pair 2 nil"), ref(0), "(1 2)")
	shows(t, heap("pair 1 c1, pair 2 3"), ref(0), "(1 2 . 3)")
	shows(t, heap("pair c1 c1, box 7 nil"), ref(0), "(#0=#box(7) . #0#)")
}

func TestThirdExample(t *testing.T) {
	shows(t, heap("pair s0 c0"), ref(0), "#0=(a . #0#)")
	shows(t, heap("pair c1 c1, pair s1 nil"), ref(0), "(#0=(b) . #0#)")
	shows(t, heap("pair 1 c1, pair c1 nil"), ref(0), "(1 . #0=(#0#))")
}

func TestFourthExample(t *testing.T) {
	shows(t, heap("closure 4 c1, pair 1 nil"), ref(0), "#proc4((1))")
	shows(t, heap("closure 0 nil"), ref(0), "#proc0(())")
}

func TestFifthExample(t *testing.T) {
	alike(t, heap("pair 1 c1, pair 2 nil"), ref(0), heap("pair 2 nil, pair 1 c0"), ref(1), true)
	alike(t, heap("pair c1 c1, pair s1 nil"), ref(0), heap("pair c1 c2, pair s1 nil, pair s1 nil"), ref(0), false)
}

// TestDocumentsExample: the third one of DOC.md.
func TestDocumentsExample(t *testing.T) {
	shows(t, heap("pair 1 c0"), ref(0), "#0=(1 . #0#)")
}
