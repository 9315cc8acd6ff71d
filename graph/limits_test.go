package graph_test

import (
	"slices"
	"testing"

	"dapple/api"
	"dapple/graph"
)

// chain is a heap of which each cell names the next one, by A or by B, up or down, and the last one nothing.
func chain(n int, byB, down bool) []api.Cell {
	h := make([]api.Cell, n)
	for i := range h {
		next := wordOf("n")
		if i+1 < n {
			next = ref(i + 1)
		}
		if down {
			next = wordOf("n")
			if i > 0 {
				next = ref(i - 1)
			}
		}
		h[i] = api.Cell{Kind: api.KindPair, A: next, B: wordOf("1")}
		if byB {
			h[i].A, h[i].B = h[i].B, h[i].A
		}
	}
	return h
}

// countUp are the numbers from 0 on.
func countUp(n int) []int {
	out := make([]int, n)
	for i := range out {
		out[i] = i
	}
	return out
}

// TestLongChains: as long as a heap may be, and as long as anything may be nested.
func TestLongChains(t *testing.T) {
	for _, n := range []int{api.MaxCells - 1, api.MaxCells, 65536} {
		for _, byB := range []bool{false, true} {
			up := chain(n, byB, false)
			checks(t, up, api.OK, 0)
			reaches(t, up, wordsOf("r0"), slices.Repeat([]bool{true}, n))
			orders(t, up, wordsOf("r0"), countUp(n))
			hasForm(t, up, wordsOf("r0"), up, wordsOf("r0"))
			leads(t, up, n-1, wordsOf("r0"), countUp(n))
			leads(t, up, 0, []api.Word{ref(n - 1)}, nil)

			down := chain(n, byB, true)
			row := countUp(n)
			slices.Reverse(row)
			last := []api.Word{ref(n - 1)}
			orders(t, down, last, row)
			hasForm(t, down, last, up, wordsOf("r0"))
			leads(t, down, 0, last, row)
			leads(t, down, 0, append(last, ref(1)), []int{1, 0})
		}
	}
}

// TestBrokenChains: a free cell in the midst ends what is reached.
func TestBrokenChains(t *testing.T) {
	h := chain(api.MaxCells, false, false)
	h[2000].Kind = api.KindFree
	orders(t, h, wordsOf("r0"), countUp(2001))
	leads(t, h, 2000, wordsOf("r0"), countUp(2001))
	leads(t, h, 2001, wordsOf("r0"), nil)
	h[4095].B = 0
	checks(t, h, api.ErrGraphForm, 4095)
	refusedPath(t, h, 0, ref(0))
}

// TestLongRing: the last cell names the first one.
func TestLongRing(t *testing.T) {
	h := chain(api.MaxCells, true, false)
	h[api.MaxCells-1].B = ref(0)
	row := append(countUp(api.MaxCells)[100:], countUp(100)...)
	orders(t, h, wordsOf("r100"), row)
	hasForm(t, h, wordsOf("r100"), h, wordsOf("r0"))
	leads(t, h, 99, wordsOf("r100"), row)
}

// TestGreatTree: as many cells as may be, each of which names two others.
func TestGreatTree(t *testing.T) {
	h := make([]api.Cell, api.MaxCells)
	for i := range h {
		h[i] = api.Cell{Kind: api.KindPair, A: wordOf("n"), B: wordOf("n")}
		if 2*i+2 < len(h) {
			h[i].A, h[i].B = ref(2*i+1), ref(2*i+2)
		}
	}
	orders(t, h, wordsOf("r0"), countUp(4095))
	hasForm(t, h, wordsOf("r0"), h[:4095], wordsOf("r0"))
	leads(t, h, 4094, wordsOf("r0"), []int{0, 2, 6, 14, 30, 62, 126, 254, 510, 1022, 2046, 4094})
	leads(t, h, 4095, wordsOf("r0"), nil)
}

// ladder has steps of two cells, each of which names both of the next step: there are as many shortest ways as no call could try. The greater one of both stands first.
func ladder(steps int) []api.Cell {
	h := make([]api.Cell, 2*steps)
	for i := range h {
		h[i] = api.Cell{Kind: api.KindPair, A: wordOf("n"), B: wordOf("n")}
		if next := i/2*2 + 2; next < len(h) {
			h[i].A, h[i].B = ref(next+1), ref(next)
		}
	}
	return h
}

func TestManyWays(t *testing.T) {
	h := ladder(api.MaxCells / 2)
	var least []int
	for i := 0; i < api.MaxCells; i += 2 {
		least = append(least, i)
	}
	leads(t, h, api.MaxCells-2, wordsOf("r1 r0"), least)
	least[len(least)-1]++
	leads(t, h, api.MaxCells-1, wordsOf("r1 r0"), least)
	least[0]++
	leads(t, h, api.MaxCells-1, wordsOf("r1"), least)
}

// TestManyRoots: there are as many as like to be.
func TestManyRoots(t *testing.T) {
	h := make([]api.Cell, api.MaxCells)
	var roots []api.Word
	var own []api.Word
	for i := range 100000 {
		roots = append(roots, ref(api.MaxCells-1-i%api.MaxCells))
		own = append(own, ref(i%api.MaxCells))
	}
	row := countUp(api.MaxCells)
	slices.Reverse(row)
	orders(t, h, roots, row)
	hasForm(t, h, roots, h, own)
	leads(t, h, 17, roots, []int{17})
	if _, e := graph.Reach(h, append(roots, ref(api.MaxCells))...); e != api.ErrGraphForm {
		t.Errorf("%d", e)
	}
}
