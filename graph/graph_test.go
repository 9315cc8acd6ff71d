package graph_test

import (
	"fmt"
	"slices"
	"strconv"
	"strings"
	"testing"

	"dapple/api"
	"dapple/graph"
)

// bits is the word of a tag and a number by chapter 1, or what no word is.
func bits(t api.Tag, n int64) api.Word { return api.Word(n)<<4 | api.Word(t) }

// ref is the reference to a cell, or what looks like one.
func ref(n int) api.Word { return bits(api.TagRef, int64(n)) }

// wordOf reads a word: n, f, t, none; r3, s3, p3 are a reference, a symbol, a primitive, a number alone is one; x with hexadecimal digits is any bits.
func wordOf(s string) api.Word {
	switch s {
	case "n":
		return bits(api.TagNil, 0)
	case "f":
		return bits(api.TagFalse, 0)
	case "t":
		return bits(api.TagTrue, 0)
	case "none":
		return bits(api.TagNone, 0)
	}
	if digits, ok := strings.CutPrefix(s, "x"); ok {
		n, err := strconv.ParseUint(digits, 16, 64)
		if err != nil {
			panic(err)
		}
		return api.Word(n)
	}
	tag, digits := api.TagInt, s
	switch s[0] {
	case 'r':
		tag, digits = api.TagRef, s[1:]
	case 's':
		tag, digits = api.TagSymbol, s[1:]
	case 'p':
		tag, digits = api.TagPrim, s[1:]
	}
	n, err := strconv.ParseInt(digits, 10, 64)
	if err != nil {
		panic(err)
	}
	return bits(tag, n)
}

// wordsOf reads words with blanks between.
func wordsOf(s string) []api.Word {
	var out []api.Word
	for _, f := range strings.Fields(s) {
		out = append(out, wordOf(f))
	}
	return out
}

// heapOf reads cells with commas between: "r2 n" is a pair, "box 5 n", "clo 0 r1", "free x0 r9" say their kinds; "grey" or "black" may stand ahead.
func heapOf(s string) []api.Cell {
	var out []api.Cell
	if strings.TrimSpace(s) == "" {
		return nil
	}
	for _, part := range strings.Split(s, ",") {
		out = append(out, cellOf(strings.Fields(part)))
	}
	return out
}

func cellOf(fields []string) api.Cell {
	c := api.Cell{Kind: api.KindPair}
	for len(fields) > 2 {
		switch fields[0] {
		case "free":
			c.Kind = api.KindFree
		case "box":
			c.Kind = api.KindBox
		case "clo":
			c.Kind = api.KindClosure
		case "grey":
			c.Colour = api.Grey
		case "black":
			c.Colour = api.Black
		default:
			panic(fields[0])
		}
		fields = fields[1:]
	}
	c.A, c.B = wordOf(fields[0]), wordOf(fields[1])
	return c
}

// numbersOf reads numbers with blanks between.
func numbersOf(s string) []int {
	var out []int
	for _, f := range strings.Fields(s) {
		n, err := strconv.Atoi(f)
		if err != nil {
			panic(err)
		}
		out = append(out, n)
	}
	return out
}

// told is a heap and roots for a message, cut where it is long.
func told(h []api.Cell, roots []api.Word) string {
	s := fmt.Sprintf("%x of %x", roots, h)
	return s[:min(len(s), 400)]
}

func checks(t *testing.T, h []api.Cell, want api.Errno, wantAt int) {
	t.Helper()
	if e, at := graph.Check(h); e != want || at != wantAt {
		t.Errorf("Check of %s: %d at %d, not %d at %d", told(h, nil), e, at, want, wantAt)
	}
}

func reaches(t *testing.T, h []api.Cell, roots []api.Word, want []bool) {
	t.Helper()
	if got, e := graph.Reach(h, roots...); e != api.OK || !slices.Equal(got, want) {
		t.Errorf("Reach of %s: %v, %d, not %v", told(h, roots), got, e, want)
	}
}

func orders(t *testing.T, h []api.Cell, roots []api.Word, want []int) {
	t.Helper()
	if got, e := graph.Order(h, roots...); e != api.OK || !slices.Equal(got, want) {
		t.Errorf("Order of %s: %v, %d, not %v", told(h, roots), got, e, want)
	}
}

func hasForm(t *testing.T, h []api.Cell, roots []api.Word, want []api.Cell, wantRoots []api.Word) {
	t.Helper()
	got, gotRoots, e := graph.Form(h, roots...)
	if e != api.OK || !slices.Equal(got, want) || !slices.Equal(gotRoots, wantRoots) {
		t.Errorf("Form of %s: %s, %d, not %s", told(h, roots), told(got, gotRoots), e, told(want, wantRoots))
	}
}

// leads holds Path against a row; one without cells stands for none.
func leads(t *testing.T, h []api.Cell, to int, roots []api.Word, want []int) {
	t.Helper()
	if got, ok, e := graph.Path(h, to, roots...); e != api.OK || ok != (len(want) > 0) || !slices.Equal(got, want) {
		t.Errorf("Path to %d in %s: %v, %v, %d, not %v", to, told(h, roots), got, ok, e, want)
	}
}

// refused holds that all calls that take roots refuse what they are given, and answer nothing beside.
func refused(t *testing.T, h []api.Cell, roots ...api.Word) {
	t.Helper()
	if l, e := graph.Reach(h, roots...); e != api.ErrGraphForm || len(l) > 0 {
		t.Errorf("Reach of %s: %v, %d", told(h, roots), l, e)
	}
	if l, e := graph.Order(h, roots...); e != api.ErrGraphForm || len(l) > 0 {
		t.Errorf("Order of %s: %v, %d", told(h, roots), l, e)
	}
	if f, r, e := graph.Form(h, roots...); e != api.ErrGraphForm || len(f) > 0 || len(r) > 0 {
		t.Errorf("Form of %s: %s, %d", told(h, roots), told(f, r), e)
	}
	for to := range max(len(h), 1) {
		refusedPath(t, h, to, roots...)
	}
}

func refusedPath(t *testing.T, h []api.Cell, to int, roots ...api.Word) {
	t.Helper()
	if l, ok, e := graph.Path(h, to, roots...); e != api.ErrGraphForm || ok || len(l) > 0 {
		t.Errorf("Path to %d in %s: %v, %v, %d", to, told(h, roots), l, ok, e)
	}
}

// example is the chapter's heap.
func example() []api.Cell { return heapOf("r2 n, n n, r0 r3, 1 n") }

func TestNumbersOfErrors(t *testing.T) {
	if api.OK != 0 || api.ErrGraphForm != 100 {
		t.Errorf("%d, %d", api.OK, api.ErrGraphForm)
	}
}

func TestFirstExample(t *testing.T) {
	h, roots := example(), wordsOf("r0")
	checks(t, h, api.OK, 0)
	reaches(t, h, roots, []bool{true, false, true, true})
	orders(t, h, roots, []int{0, 2, 3})
	hasForm(t, h, roots, heapOf("r1 n, r0 r2, 1 n"), wordsOf("r0"))
	leads(t, h, 3, roots, []int{0, 2, 3})
	leads(t, h, 1, roots, nil)
}

func TestSecondExample(t *testing.T) {
	h, roots := example(), wordsOf("r3 r2")
	orders(t, h, roots, []int{3, 2, 0})
	hasForm(t, h, roots, heapOf("1 n, r2 r0, r1 n"), wordsOf("r0 r1"))
}

func TestThirdExample(t *testing.T) {
	checks(t, heapOf("r1 n"), api.ErrGraphForm, 0)
	checks(t, heapOf("free x0 xffffffffffffffff"), api.OK, 0)
	reaches(t, example(), wordsOf("2"), make([]bool, 4))
	orders(t, example(), wordsOf("2"), nil)
}
