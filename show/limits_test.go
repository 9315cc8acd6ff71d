package show_test

import (
	"strconv"
	"strings"
	"testing"

	"dapple/api"
)

// chain is a heap of so many cells, each made of the reference to the next one; the last one of nil.
func chain(n int, cell func(next api.Word) api.Cell) []api.Cell {
	h := make([]api.Cell, n)
	for i := range h {
		h[i] = cell(ref(i + 1))
	}
	h[n-1] = cell(word("nil"))
	return h
}

func byA(next api.Word) api.Cell { return api.Cell{Kind: api.KindPair, A: next, B: word("nil")} }

func byB(next api.Word) api.Cell { return api.Cell{Kind: api.KindPair, A: word("1"), B: next} }

func byBoth(next api.Word) api.Cell { return api.Cell{Kind: api.KindPair, A: next, B: next} }

func byBox(next api.Word) api.Cell { return api.Cell{Kind: api.KindBox, A: next, B: word("nil")} }

func byClosure(next api.Word) api.Cell { return api.Cell{Kind: api.KindClosure, A: word("7"), B: next} }

// sizes are as many cells as a heap may have, and as deep as anything may be nested.
func sizes() []int { return []int{1, 2, api.MaxCells - 1, api.MaxCells, 65536} }

// TestLongLists: with and without a last tail; a list may be longer than anything is deep.
func TestLongLists(t *testing.T) {
	for _, n := range append(sizes(), 200000) {
		h := chain(n, byB)
		want := "(1" + strings.Repeat(" 1", n-1)
		shows(t, h, ref(0), want+")")
		alike(t, h, ref(0), turned(h), ref(n-1), true)
		alike(t, h, ref(0), chain(n+1, byB), ref(0), false)
		alike(t, h, ref(0), chain(n+1, byB), ref(1), true)
		h[n-1].B = word("s1")
		shows(t, h, ref(0), want+" . b)")
	}
}

// TestDeepCells: by each field that leads deeper.
func TestDeepCells(t *testing.T) {
	for _, n := range sizes() {
		for _, x := range []struct {
			cell        func(api.Word) api.Cell
			open, close string
		}{{byA, "(", ")"}, {byBox, "#box(", ")"}, {byClosure, "#proc7(", ")"}} {
			h := chain(n, x.cell)
			shows(t, h, ref(0), strings.Repeat(x.open, n)+"()"+strings.Repeat(x.close, n))
			alike(t, h, ref(0), turned(h), ref(n-1), true)
			h[n-1].Kind = api.KindFree
			unfit(t, h, ref(0))
		}
	}
}

// TestDeepTails: each pair of a list is met twice, by its own first word too, so each tail stands by itself.
func TestDeepTails(t *testing.T) {
	for _, n := range sizes() {
		h := chain(n, byB)
		var want strings.Builder
		for i := range h {
			h[i].A = ref(i)
			label := strconv.Itoa(i)
			if i > 0 {
				want.WriteString(" . ")
			}
			want.WriteString("#" + label + "=(#" + label + "#")
		}
		want.WriteString(strings.Repeat(")", n))
		shows(t, h, ref(0), want.String())
		alike(t, h, ref(0), turned(h), ref(n-1), true)
	}
}

// TestLabelsWithinLabels: there are as many ways as no call could go, but each cell is written once.
func TestLabelsWithinLabels(t *testing.T) {
	for _, n := range sizes() {
		h := chain(n, byBoth)
		var ahead, behind strings.Builder
		for i := range n - 1 {
			ahead.WriteString("(#" + strconv.Itoa(i) + "=")
			behind.WriteString(" . #" + strconv.Itoa(n-2-i) + "#)")
		}
		shows(t, h, ref(0), ahead.String()+"(())"+behind.String())
		alike(t, h, ref(0), turned(h), ref(n-1), true)
		g := chain(n, byBoth)
		g[n-1].A = word("1")
		alike(t, h, ref(0), g, ref(0), false)
	}
}

// TestLongRings: the last cell names the first one.
func TestLongRings(t *testing.T) {
	for _, n := range sizes() {
		h := chain(n, byB)
		h[n-1].B = ref(0)
		want := "#0=(1" + strings.Repeat(" 1", n-1) + " . #0#)"
		for _, at := range []int{0, n / 2, n - 1} {
			shows(t, h, ref(at), want)
			alike(t, h, ref(0), turned(h), ref(at), true)
		}
		for _, x := range []struct {
			cell func(api.Word) api.Cell
			open string
		}{{byBox, "#box("}, {byClosure, "#proc7("}} {
			h = chain(n, x.cell)
			h[n-1] = x.cell(ref(0))
			shows(t, h, ref(n/2), "#0="+strings.Repeat(x.open, n)+"#0#"+strings.Repeat(")", n))
		}
		if n > 1 {
			h = chain(n, byB)
			h[n-1].B = ref(1)
			shows(t, h, ref(0), "(1 . #0=(1"+strings.Repeat(" 1", n-2)+" . #0#))")
			ring := chain(n, byB)
			ring[n-1].B = ref(0)
			alike(t, h, ref(0), ring, ref(0), false)
		}
	}
}

// TestGreatTree: as many cells as may be, each of which names two others.
func TestGreatTree(t *testing.T) {
	h := make([]api.Cell, api.MaxCells)
	for i := range h {
		h[i] = heap("pair nil nil")[0]
		if 2*i+2 < len(h) {
			h[i].A, h[i].B = ref(2*i+1), ref(2*i+2)
		}
	}
	want := "(())"
	for range 11 {
		want = "(" + want + " " + want[1:]
	}
	shows(t, h, ref(0), want)
	alike(t, h, ref(0), turned(h), ref(len(h)-1), true)
	alike(t, h, ref(1), h, ref(2), true)
	alike(t, h, ref(1), h, ref(3), false)
}

// TestOneCellMetOften: by all others.
func TestOneCellMetOften(t *testing.T) {
	h := chain(api.MaxCells-1, byB)
	for i := range h {
		h[i].A = ref(len(h))
	}
	h = append(h, heap("box s0 nil")...)
	shows(t, h, ref(0), "(#0=#box(a)"+strings.Repeat(" #0#", len(h)-2)+")")
}
