package show_test

import (
	"slices"
	"testing"

	"dapple/api"
)

// TestNoWords: what is no word fits no heap, and none that meets it stands still.
func TestNoWords(t *testing.T) {
	none := []api.Word{0, 9, 15, 16, bits(api.TagNil, 1), bits(api.TagFalse, -1), bits(api.TagTrue, 1), bits(api.TagNone, 1), bits(api.TagSymbol, -1), bits(api.TagSymbol, 1<<31),
		bits(api.TagPrim, 0), bits(api.TagPrim, 23), bits(api.TagRef, -1), bits(api.TagRef, 1<<31), 1<<64 - 1}
	for _, w := range none {
		unfit(t, nil, w)
		unfit(t, heap("pair 1 nil"), w)
		for _, kind := range []api.Kind{api.KindPair, api.KindBox, api.KindClosure} {
			// A field that is none must be a word all the same, and so must those of cells that are not met.
			for _, c := range []api.Cell{{Kind: kind, A: w, B: word("1")}, {Kind: kind, A: word("1"), B: w}} {
				h := append(heap("pair 1 nil"), c)
				unfit(t, h, ref(1))
				unfit(t, h, ref(0))
				unfit(t, h, word("nil"))
			}
		}
		shows(t, []api.Cell{heap("pair 1 nil")[0], {A: w, B: w}}, ref(0), "(1)")
	}
}

// TestReferences: to the last cell, and to one behind it.
func TestReferences(t *testing.T) {
	for n := range 4 {
		h := slices.Repeat(heap("pair 1 nil"), n)
		unfit(t, h, ref(n))
		unfit(t, h, ref(1<<31-1))
		shows(t, h, word("nil"), "()")
		if n == 0 {
			continue
		}
		shows(t, h, ref(n-1), "(1)")
		for _, kind := range []api.Kind{api.KindPair, api.KindBox, api.KindClosure} {
			h[0] = api.Cell{Kind: kind, A: word("0"), B: ref(n)}
			unfit(t, h, ref(n-1))
			h[0] = api.Cell{Kind: kind, A: ref(n), B: word("0")}
			unfit(t, h, ref(n-1))
		}
	}
	shows(t, heap("pair c2 c2, free 1 2, box s1 nil"), ref(0), "(#0=#box(b) . #0#)")
}

// TestHeapsThatDoNotStandStill: whatever is met of them.
func TestHeapsThatDoNotStandStill(t *testing.T) {
	for kind := range 256 {
		for _, colour := range []int{0, 1, 2, 3, 4, 255} {
			h := append(heap("pair 1 nil"), api.Cell{Kind: api.Kind(kind), Colour: api.Colour(colour), A: word("2"), B: word("3")})
			if kind > 3 || colour > 2 {
				unfit(t, h, ref(0))
				unfit(t, h, ref(1))
				unfit(t, h, word("7"))
				continue
			}
			shows(t, h, ref(0), "(1)")
			shows(t, h, word("7"), "7")
			if kind == 0 {
				unfit(t, h, ref(1))
			} else {
				shows(t, h, ref(1), []string{"", "(2 . 3)", "#box(2)", "#proc2(3)"}[kind])
			}
		}
	}
}

// TestFreeCells: they may stand there, and not be met.
func TestFreeCells(t *testing.T) {
	free := ", free 1 nil"
	unfit(t, heap("free 1 nil"), ref(0))
	for _, cell := range []string{"pair c1 nil", "pair nil c1", "pair c1 c1", "pair c1 c0", "box c1 nil", "closure 0 c1"} {
		unfit(t, heap(cell+free), ref(0))
		unfit(t, heap(cell+free), ref(1))
		shows(t, heap(cell+free), word("5"), "5")
		shows(t, heap(cell+free+", pair 5 nil"), ref(2), "(5)")
	}
	unfit(t, heap("pair 1 c1, box c2 nil, closure 3 c3, pair 1 c4, free x0 x0"), ref(0))
	// Nothing is met over a free cell: what it leads to is as good as not there.
	shows(t, heap("box 1 nil, free c2 c2, closure nil nil"), ref(0), "#box(1)")
	// What is no field may name a free one.
	shows(t, heap("box 1 c1, free c0 x0"), ref(0), "#box(1)")
	shows(t, heap("pair c1 c1, box c2 c3, box 1 c3, free x0 x0"), ref(0), "(#0=#box(#box(1)) . #0#)")
}

// TestProcedures: each closure that is met has the number of one.
func TestProcedures(t *testing.T) {
	for _, a := range []string{"nil", "#f", "#t", "#none", "-1", "-576460752303423488", "s0", "p1", "c0", "c1", "c2"} {
		for _, ahead := range []string{"pair c1 nil", "pair nil c1", "box c1 nil", "closure 0 c1"} {
			h := heap(ahead + ", closure " + a + " nil, pair 1 nil, free x0 x0")
			unfit(t, h, ref(0))
			unfit(t, h, ref(1))
			shows(t, h, ref(2), "(1)")
			shows(t, h, word("s1"), "b")
			alike(t, h, ref(2), h, ref(2), true)
			alike(t, h, ref(2), h, word("5"), false)
		}
		// What is met by a field that is none is not met.
		shows(t, heap("box 7 c1, closure "+a+" nil, box 1 nil"), ref(0), "#box(7)")
	}
	shows(t, heap("closure 0 nil"), ref(0), "#proc0(())")
	shows(t, heap("closure 255 s1"), ref(0), "#proc255(b)")
	shows(t, heap("closure 576460752303423487 1"), ref(0), "#proc576460752303423487(1)")
	shows(t, heap("closure 1 c0"), ref(0), "#0=#proc1(#0#)")
}

// TestFieldsThatAreNone: a box's B and a closure's A are not met, whatever they name.
func TestFieldsThatAreNone(t *testing.T) {
	for _, b := range []string{"nil", "#t", "-7", "s0", "s99", "p22", "c0", "c1", "c2", "c3"} {
		more := ", pair 1 nil, free x0 x0, closure nil nil"
		h := heap("box 7 " + b + more)
		shows(t, h, ref(0), "#box(7)")
		alike(t, h, ref(0), heap("box 7 nil"), ref(0), true)
		h = heap("box c1 " + b + more)
		shows(t, h, ref(0), "#box((1))")
		alike(t, h, ref(0), heap("pair 1 nil, box c0 c1"), ref(1), true)
		// A cell that is met once is not met again by them.
		shows(t, heap("pair c1 c2, box c2 "+b+", pair 1 nil, box 2 nil"), ref(0), "(#box(#0=(1)) . #0#)")
	}
}

// TestEachWordOnItsHeap: a reference is asked of its own heap alone.
func TestEachWordOnItsHeap(t *testing.T) {
	one, two := heap("pair 1 nil"), heap("pair 1 nil, pair 1 nil")
	shows(t, two, ref(1), "(1)")
	unfit(t, one, ref(1))
	alike(t, one, ref(0), two, ref(1), true)
	refusedPair(t, one, ref(1), two, ref(0))
	refusedPair(t, two, ref(0), one, ref(1))
	refusedPair(t, one, ref(1), two, ref(1))
	refusedPair(t, nil, word("nil"), one, ref(2))
}
