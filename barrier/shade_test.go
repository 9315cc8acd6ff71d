package barrier_test

import (
	"math"
	"testing"

	"dapple/api"
	"dapple/barrier"
)

func births(t *testing.T, p api.Phase, cell, swept int, want api.Colour) {
	t.Helper()
	if got := barrier.Birth(p, cell, swept); got != want {
		t.Errorf("Birth(%d, %d, %d): %d, not %d", p, cell, swept, got, want)
	}
}

// eachPhase hands on all phases, with all numbers that are none, and whether the barrier is on.
func eachPhase(do func(p api.Phase, on bool)) {
	for n := range 256 {
		do(api.Phase(n), n == 1 || n == 2)
	}
}

func TestPhasesAreNumbered(t *testing.T) {
	if api.PhaseIdle != 0 || api.PhaseRoots != 1 || api.PhaseMark != 2 || api.PhaseSweep != 3 {
		t.Errorf("%d, %d, %d, %d", api.PhaseIdle, api.PhaseRoots, api.PhaseMark, api.PhaseSweep)
	}
}

func TestStoreInEachPhase(t *testing.T) {
	h := heapOf("n n, box n n, clo 0 n, n n")
	eachPhase(func(p api.Phase, on bool) {
		if !on {
			shades(t, barrier.Store(p, false, ref(2), ref(1), h))
			shades(t, barrier.Store(p, true, ref(2), ref(1), h))
			return
		}
		shades(t, barrier.Store(p, false, ref(2), ref(1), h), 2, 1)
		shades(t, barrier.Store(p, false, ref(1), ref(2), h), 1, 2)
		shades(t, barrier.Store(p, true, ref(2), ref(1), h), 2)
		shades(t, barrier.Store(p, true, wordOf("n"), ref(1), h))
		shades(t, barrier.Store(p, false, wordOf("n"), ref(1), h), 1)
		shades(t, barrier.Store(p, false, ref(3), wordOf("5"), h), 3)
	})
}

func TestFillInEachPhase(t *testing.T) {
	h := heapOf("n n, box n n, clo 0 n, n n")
	eachPhase(func(p api.Phase, on bool) {
		shades(t, barrier.Fill(p, true, ref(2), ref(1), h))
		if !on {
			shades(t, barrier.Fill(p, false, ref(2), ref(1), h))
			return
		}
		shades(t, barrier.Fill(p, false, ref(2), ref(1), h), 2, 1)
		shades(t, barrier.Fill(p, false, ref(1), ref(2), h), 1, 2)
		shades(t, barrier.Fill(p, false, wordOf("n"), ref(1), h), 1)
		shades(t, barrier.Fill(p, false, ref(3), wordOf("5"), h), 3)
	})
}

// both are the calls that take two words and shade both of them.
func both(p api.Phase, h []api.Cell, a, b api.Word) [][]int {
	return [][]int{barrier.Store(p, false, a, b, h), barrier.Fill(p, false, a, b, h)}
}

// TestTheSameCellTwice: it is told once, where it was named first.
func TestTheSameCellTwice(t *testing.T) {
	for _, got := range both(api.PhaseMark, heapOf("n n, n n, n n"), ref(2), ref(2)) {
		shades(t, got, 2)
	}
	shades(t, barrier.Store(api.PhaseMark, true, ref(2), ref(2), heapOf("n n, n n, n n")), 2)
}

// TestWordsThatNameNothing: words of every other tag, no words, references below 0, to one behind the last cell and beyond, alone and beside one that names a cell.
func TestWordsThatNameNothing(t *testing.T) {
	h := heapOf("n n, n n, n n, n n")
	for _, w := range append(wordsOf("n f t none 0 1 3 -1 s0 s3 p1 p3 p22"), badWords()...) {
		for _, p := range []api.Phase{api.PhaseRoots, api.PhaseMark} {
			for _, got := range both(p, h, w, w) {
				shades(t, got)
			}
			for _, got := range both(p, h, w, ref(3)) {
				shades(t, got, 3)
			}
			for _, got := range both(p, h, ref(3), w) {
				shades(t, got, 3)
			}
			shades(t, barrier.Store(p, true, w, ref(3), h))
			shades(t, barrier.Store(p, true, ref(3), w, h), 3)
		}
	}
}

// badWords are no words, or references to cells that a heap of four has not.
func badWords() []api.Word {
	out := []api.Word{
		0, ^api.Word(0), 1 << 63, 16,
		bits(api.TagNil, 1), bits(api.TagFalse, -1), bits(api.TagTrue, 1), bits(api.TagNone, 1),
		bits(api.TagSymbol, -1), bits(api.TagSymbol, 1<<31), bits(api.TagPrim, 0), bits(api.TagPrim, 23), bits(api.TagPrim, -1),
		ref(4), ref(5), ref(-1), ref(-4), ref(1<<31 - 1), ref(1 << 31), ref(1 << 32), ref(1<<32 + 1), bits(api.TagRef, 1<<59), bits(api.TagRef, -1<<59),
	}
	for tag := api.Tag(9); tag < 16; tag++ {
		out = append(out, bits(tag, 0), bits(tag, 1))
	}
	return out
}

// TestTheLastCell: it is shaded, and none behind it is looked for.
func TestTheLastCell(t *testing.T) {
	for n := range 40 {
		h := make([]api.Cell, n)
		for i := range h {
			h[i] = cellOf([]string{"n", "n"})
		}
		for _, got := range both(api.PhaseMark, h, ref(n), ref(n+1)) {
			shades(t, got)
		}
		if n == 0 {
			continue
		}
		for _, got := range both(api.PhaseRoots, h, ref(n-1), ref(n)) {
			shades(t, got, n-1)
		}
		for _, got := range both(api.PhaseRoots, h, ref(n), ref(0)) {
			shades(t, got, 0)
		}
	}
}

func TestEmptyHeaps(t *testing.T) {
	for _, h := range [][]api.Cell{nil, {}} {
		for _, w := range append(badWords(), ref(0), ref(1), wordOf("n")) {
			for _, got := range both(api.PhaseMark, h, w, ref(0)) {
				shades(t, got)
			}
			shades(t, barrier.Store(api.PhaseRoots, true, w, ref(0), h))
		}
	}
}

// TestKindsAndColoursAreShaded: only a white cell that is not free is; what else stands in the heap, or in the cell itself, does not matter.
func TestKindsAndColoursAreShaded(t *testing.T) {
	for kind := range 256 {
		for colour := range 256 {
			h := []api.Cell{{Kind: 9, Colour: 9}, {Kind: api.Kind(kind), Colour: api.Colour(colour), A: ref(77)}, cellOf([]string{"n", "n"})}
			if kind != 0 && colour == 0 {
				shades(t, barrier.Store(api.PhaseMark, true, ref(1), ref(2), h), 1)
				shades(t, barrier.Store(api.PhaseMark, false, ref(2), ref(1), h), 2, 1)
				shades(t, barrier.Fill(api.PhaseMark, false, ref(1), ref(2), h), 1, 2)
				continue
			}
			shades(t, barrier.Store(api.PhaseMark, true, ref(1), ref(2), h))
			shades(t, barrier.Store(api.PhaseMark, false, ref(2), ref(1), h), 2)
			shades(t, barrier.Fill(api.PhaseMark, false, ref(1), ref(2), h), 2)
		}
	}
}

// TestOnlyWhatTheWordsNameIsShaded: what hangs on it is not.
func TestOnlyWhatTheWordsNameIsShaded(t *testing.T) {
	h := heapOf("r1 r2, r2 n, r0 n, black r0 r1")
	shades(t, barrier.Store(api.PhaseMark, false, ref(0), wordOf("n"), h), 0)
	shades(t, barrier.Store(api.PhaseMark, false, ref(3), ref(3), h))
	shades(t, barrier.Fill(api.PhaseMark, false, ref(3), ref(1), h), 1)
}

// TestBirthInEachPhase: with cell below, at and above swept, and at the ends of the numbers.
func TestBirthInEachPhase(t *testing.T) {
	some := []int{math.MinInt, math.MinInt + 1, -2, -1, 0, 1, 2, 3, 4, 4095, 4096, 4097, 1 << 32, math.MaxInt - 1, math.MaxInt}
	eachPhase(func(p api.Phase, on bool) {
		for _, cell := range some {
			for _, swept := range some {
				want := api.White
				if on || p == 3 && !(cell < swept) {
					want = api.Black
				}
				births(t, p, cell, swept, want)
			}
		}
	})
}
