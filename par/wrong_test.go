package par_test

import (
	"math"
	"slices"
	"testing"

	"dapple/api"
	"dapple/graph"
	"dapple/par"
)

// marksNot holds that Mark and Collect refuse, and answer nothing beside.
func marksNot(t *testing.T, h []api.Cell, workers int, want api.Errno, roots ...api.Word) {
	t.Helper()
	if l, s, e := par.Mark(h, workers, roots...); e != want || len(l) > 0 || s != (api.Sums{}) {
		t.Errorf("Mark by %d, %s: %v, %+v, %d, not %d", workers, told(h, roots), l, s, e, want)
	}
	if x, l, s, e := par.Collect(h, workers, roots...); e != want || len(x) > 0 || len(l) > 0 || s != (api.Sums{}) {
		t.Errorf("Collect by %d, %s: %v, %v, %+v, %d, not %d", workers, told(h, roots), x, l, s, e, want)
	}
}

// sweepsNot holds that Sweep refuses, and answers nothing beside.
func sweepsNot(t *testing.T, h []api.Cell, live []bool, workers int, want api.Errno) {
	t.Helper()
	if x, l, s, e := par.Sweep(h, live, workers); e != want || len(x) > 0 || len(l) > 0 || s != (api.Sums{}) {
		t.Errorf("Sweep by %d, %s, %v: %v, %v, %+v, %d, not %d", workers, told(h, nil), live, x, l, s, e, want)
	}
}

// notSoMany are numbers of workers that may not be.
func notSoMany() []int {
	return []int{0, 17, -1, -16, 18, 32, 256, 257, 1 << 16, 1<<32 + 1, math.MinInt, math.MaxInt}
}

// TestWorkers: 1 to 16 may be, all others not, of each call; that is asked ahead of all else.
func TestWorkers(t *testing.T) {
	h, live := heapOf(example), truths("1010")
	bad := heapOf("n n, x0 n, r0 n, free")
	for _, workers := range notSoMany() {
		marksNot(t, h, workers, api.ErrArg, ref(0))
		marksNot(t, h, workers, api.ErrArg)
		marksNot(t, nil, workers, api.ErrArg)
		marksNot(t, bad, workers, api.ErrArg, ref(0))
		marksNot(t, h, workers, api.ErrArg, ref(4))
		marksNot(t, h, workers, api.ErrArg, 0)
		sweepsNot(t, h, live, workers, api.ErrArg)
		sweepsNot(t, nil, nil, workers, api.ErrArg)
		sweepsNot(t, bad, live, workers, api.ErrArg)
		sweepsNot(t, h, live[:3], workers, api.ErrArg)
		sweepsNot(t, h, truths("1011"), workers, api.ErrArg)
	}
	eachMany(func(workers int) {
		if _, _, e := par.Mark(h, workers, ref(0)); e != api.OK {
			t.Errorf("Mark by %d: %d", workers, e)
		}
		if _, _, _, e := par.Sweep(h, live, workers); e != api.OK {
			t.Errorf("Sweep by %d: %d", workers, e)
		}
		if _, _, _, e := par.Collect(h, workers, ref(0)); e != api.OK {
			t.Errorf("Collect by %d: %d", workers, e)
		}
	})
}

// wrongWords are no words, or references to cells that a heap of four has not.
func wrongWords() []api.Word {
	out := []api.Word{
		0, ^api.Word(0), 1 << 63, 16,
		bits(api.TagNil, 1), bits(api.TagFalse, -1), bits(api.TagTrue, 1), bits(api.TagNone, 1),
		bits(api.TagSymbol, -1), bits(api.TagSymbol, 1<<31), bits(api.TagPrim, 0), bits(api.TagPrim, 23),
		ref(4), ref(5), ref(-1), ref(1<<31 - 1), ref(1 << 31), ref(1 << 32), bits(api.TagRef, -1<<59),
	}
	for tag := api.Tag(9); tag < 16; tag++ {
		out = append(out, bits(tag, 0))
	}
	return out
}

// TestWrongRoots: one that is no word, or names no cell, wherever it stands.
func TestWrongRoots(t *testing.T) {
	h := heapOf(example)
	for _, w := range wrongWords() {
		for _, workers := range []int{1, 2, 16} {
			marksNot(t, h, workers, api.ErrParForm, w)
			marksNot(t, h, workers, api.ErrParForm, ref(0), w)
			marksNot(t, h, workers, api.ErrParForm, w, ref(0))
			marksNot(t, h, workers, api.ErrParForm, ref(0), ref(3), w, wordOf("n"))
		}
	}
	marksNot(t, nil, 1, api.ErrParForm, ref(0))
	marksNot(t, nil, 16, api.ErrParForm, 0)
	for n := 1; n <= 40; n++ {
		last := make([]api.Cell, n)
		last[n-1] = api.Cell{Kind: api.KindBox, A: ref(n - 1), B: wordOf("n")}
		want := make([]bool, n)
		want[n-1] = true
		marksBy(t, last, 1+n%16, []api.Word{ref(n - 1)}, want)
		marksNot(t, last, 1+n%16, api.ErrParForm, ref(n))
	}
}

// wrongHeaps are heaps of four cells that graph.Check refuses; a cell that is wrong may be one that nothing reaches.
func wrongHeaps() [][]api.Cell {
	var out [][]api.Cell
	spoil := func(do func(c *api.Cell)) {
		for _, at := range []int{0, 1, 2} {
			h := heapOf(example)
			do(&h[at])
			out = append(out, h)
		}
	}
	for _, w := range wrongWords() {
		spoil(func(c *api.Cell) { c.A = w })
		spoil(func(c *api.Cell) { c.B = w })
	}
	for _, n := range []uint8{4, 5, 128, 255} {
		spoil(func(c *api.Cell) { c.Kind = api.Kind(n) })
	}
	for _, n := range []uint8{3, 4, 128, 255} {
		spoil(func(c *api.Cell) { c.Colour = api.Colour(n) })
		h := heapOf(example)
		h[3].Colour = api.Colour(n)
		out = append(out, h)
	}
	return out
}

// TestWrongHeaps: of each call, by any workers, whatever else it is given.
func TestWrongHeaps(t *testing.T) {
	for _, h := range wrongHeaps() {
		if e, _ := graph.Check(h); e == api.OK {
			t.Fatalf("%s may be", told(h, nil))
		}
		for _, workers := range []int{1, 3, 16} {
			marksNot(t, h, workers, api.ErrParForm, ref(0))
			marksNot(t, h, workers, api.ErrParForm)
			marksNot(t, h, workers, api.ErrParForm, wordOf("n"), ref(3))
			marksNot(t, h, workers, api.ErrParForm, ref(9))
			sweepsNot(t, h, make([]bool, 4), workers, api.ErrParForm)
			sweepsNot(t, h, truths("1010"), workers, api.ErrParForm)
			sweepsNot(t, h, nil, workers, api.ErrParForm)
		}
	}
}

// TestWrongLive: too few and too many, and a free cell that is said to be live, wherever it stands.
func TestWrongLive(t *testing.T) {
	h := heapOf(example)
	for n := range 12 {
		for _, workers := range []int{1, 5, 16} {
			if n != len(h) {
				sweepsNot(t, h, make([]bool, n), workers, api.ErrParForm)
				sweepsNot(t, h, append(truths("1010"), make([]bool, 8)...)[:n], workers, api.ErrParForm)
			}
			if n != 0 {
				sweepsNot(t, nil, make([]bool, n), workers, api.ErrParForm)
			}
		}
	}
	for n := range 700 {
		great := slices.Repeat(heapOf("n n"), 700)
		great[n] = api.Cell{Kind: api.KindFree, A: wordOf("n"), B: wordOf("n")}
		live := make([]bool, 700)
		live[n] = true
		sweepsNot(t, great, live, 1+n%16, api.ErrParForm)
		live = slices.Repeat([]bool{true}, 700)
		sweepsNot(t, great, live, 1+n%16, api.ErrParForm)
		live[n] = false
		if _, l, s, e := par.Sweep(great, live, 1+n%16); e != api.OK || len(l) > 0 || s != (api.Sums{}) {
			t.Fatalf("free at %d: %v, %+v, %d", n, l, s, e)
		}
	}
	for n := range 16 {
		sweepsNot(t, heapOf("free, n n, grey free n n, n n"), truths([]string{"1000", "0010", "1010", "1111"}[n%4]), 1+n, api.ErrParForm)
	}
}

// TestRefusedLeavesNothing: a call that was refused is not told by the next one (R9).
func TestRefusedLeavesNothing(t *testing.T) {
	h := heapOf(example)
	for range 50 {
		marksNot(t, h, 0, api.ErrArg, ref(0))
		marksNot(t, h, 4, api.ErrParForm, ref(0), 0)
		sweepsNot(t, h, nil, 4, api.ErrParForm)
		marksBy(t, h, 4, wordsOf("r0"), truths("1010"))
		collectsBy(t, h, 4, wordsOf("r0"), 2, heapOf("r2 n, free, r0 r3, free"), []int{1})
	}
}
