package show_test

import (
	"testing"

	"dapple/api"
)

// TestAlikeOfPlainWords: they look the same just if they are one word, on whatever heaps.
func TestAlikeOfPlainWords(t *testing.T) {
	list := []string{"nil", "#f", "#t", "#none", "0", "1", "-1", "5", "576460752303423487", "-576460752303423488", "s0", "s1", "s5", "p1", "p5", "p22"}
	for i, v := range list {
		for j, w := range list {
			alike(t, nil, word(v), heap("pair 1 c0"), word(w), i == j)
		}
		alike(t, nil, word(v), heap("pair 1 nil"), ref(0), false)
		alike(t, heap("box "+v+" nil"), word(v), heap("box "+v+" nil"), ref(0), false)
	}
}

// distinct are heaps whose cell 0 looks like that of no other one.
func distinct() []string {
	return []string{
		"pair nil nil", "pair 1 nil", "pair nil 1", "pair 2 nil", "pair 1 1", "box nil nil", "box 1 nil", "closure 0 nil", "closure 1 nil", "closure 0 1",
		"pair c0 nil", "pair nil c0", "pair c0 c0", "box c0 nil", "closure 0 c0", "closure 1 c0",
		"pair 1 c1, pair 2 nil", "pair 2 c1, pair 1 nil", "pair c1 2, pair 1 nil", "pair 1 c1, box 2 nil", "pair 1 c1, closure 2 nil",
		// Shared, and there twice: pairs, boxes, closures.
		"pair c1 c1, pair s1 nil", "pair c1 c2, pair s1 nil, pair s1 nil",
		"pair c1 c1, box s1 nil", "pair c1 c2, box s1 nil, box s1 nil",
		"pair c1 c1, closure 1 nil", "pair c1 c2, closure 1 nil, closure 1 nil",
		"pair c1 c2, pair c3 nil, pair c3 nil, box 1 nil", "pair c1 c2, pair c3 nil, pair c4 nil, box 1 nil, box 1 nil",
		// Rings that look like each other for ever, if one goes along them alone.
		"pair 1 c0", "pair 1 c1, pair 1 c0", "pair 1 c1, pair 1 c2, pair 1 c0", "pair 1 c1, pair 1 c1", "pair 1 c1, pair 1 c2, pair 1 c1", "pair 1 c1, pair 1 c2, pair 1 c2",
		"box c1 nil, box c0 nil", "box c1 nil, box c1 nil", "box c1 nil, box c2 nil, box c0 nil",
		"closure 1 c1, closure 1 c0", "closure 1 c1, closure 1 c1", "closure 1 c1, closure 2 c0",
		"pair c1 c1, pair c0 c0", "pair c0 c1, pair c1 c0", "pair c0 c1, pair c0 c1", "pair c1 c0, pair c1 c0", "pair c0 c1, pair c1 c1", "pair c1 c1, pair c1 c0", "pair c1 c1, pair c0 c1", "pair c1 c0, pair c0 c1",
		// The same cells, named the other way.
		"pair c1 c2, box 1 nil, box 2 nil", "pair c2 c1, box 1 nil, box 2 nil",
		"pair c1 c2, box c2 nil, box 2 nil", "pair c1 c2, box c1 nil, box 2 nil", "pair c1 c2, box c0 nil, box 2 nil",
	}
}

// TestWhatLooksOtherwise: each of them is like itself, like itself with its cells numbered the other way round, and like no other one.
func TestWhatLooksOtherwise(t *testing.T) {
	all := distinct()
	for i, one := range all {
		h := heap(one)
		last := len(h) - 1
		alike(t, h, ref(0), h, ref(0), true)
		alike(t, h, ref(0), turned(h), ref(last), true)
		for j, other := range all {
			alike(t, h, ref(0), heap(other), ref(0), i == j)
			g := heap(other)
			alike(t, h, ref(0), turned(g), ref(len(g)-1), i == j)
		}
	}
}

// turned is a heap whose last cell is its first one, and so on.
func turned(h []api.Cell) []api.Cell {
	last := len(h) - 1
	turn := func(w api.Word) api.Word {
		if w%16 == 8 {
			return ref(last - int(w>>4))
		}
		return w
	}
	out := make([]api.Cell, len(h))
	for i, c := range h {
		out[last-i] = api.Cell{Kind: c.Kind, Colour: (c.Colour + 1) % 3, A: turn(c.A), B: turn(c.B)}
	}
	return out
}

// TestAlikeOfOneHeap: its words with each other.
func TestAlikeOfOneHeap(t *testing.T) {
	h := heap("pair 1 c2, pair 1 c3, pair 2 nil, pair 2 nil, pair 1 c2, box c4 nil, box c0 nil, box c5 nil")
	looks := []int{0, 0, 1, 1, 0, 2, 2, 3} // two cells of one number look the same
	for i, one := range looks {
		for j, other := range looks {
			alike(t, h, ref(i), h, ref(j), one == other)
		}
	}
	// From every cell of a ring the same is seen.
	ring := heap("pair 1 c1, pair 1 c2, pair 1 c0")
	for i := range ring {
		for j := range ring {
			alike(t, ring, ref(i), ring, ref(j), true)
		}
	}
	ring[1].A = word("2")
	for i := range ring {
		for j := range ring {
			alike(t, ring, ref(i), ring, ref(j), i == j)
		}
	}
}

// TestWhatAlikeDoesNotSee: cells that are not met, colours, fields that are none.
func TestWhatAlikeDoesNotSee(t *testing.T) {
	h := heap("pair c1 c2, box 7 nil, closure 4 c1")
	for _, other := range []string{
		"pair c1 c2, box 7 c0, closure 4 c1",
		"pair c1 c2, box 7 c3, closure 4 c1, free x0 x9",
		"pair c1 c2, box 7 c2, closure 4 c1, pair c0 c1, closure nil c0",
		"pair c1 c2, box 7 s99, closure 4 c1, box c0 c0",
	} {
		g := heap(other)
		alike(t, h, ref(0), g, ref(0), true)
		alike(t, h, ref(0), turned(g), ref(len(g)-1), true)
	}
	for _, other := range []string{"pair c1 c2, box 8 nil, closure 4 c1", "pair c1 c2, box 7 nil, closure 5 c1", "pair c1 c2, box 7 nil, closure 4 c0", "pair c2 c1, box 7 nil, closure 4 c1", "pair c1 c2, pair 7 nil, closure 4 c1"} {
		alike(t, h, ref(0), heap(other), ref(0), false)
	}
}

// TestAlikeRefuses: what does not fit, on either side, though the other side would tell them apart.
func TestAlikeRefuses(t *testing.T) {
	fine := heap("pair 1 nil")
	for _, wrong := range []struct{ h, w string }{
		{"", "c0"}, {"", "x0"}, {"pair 1 nil", "c1"}, {"free 1 nil", "c0"}, {"closure -1 nil", "c0"}, {"closure nil nil", "c0"}, {"pair c1 nil, free 1 1", "c0"}, {"pair c7 nil", "nil"}, {"box 1 x0", "c0"}, {"box 1 x0", "nil"},
	} {
		for _, w := range []string{"nil", "c0", "5"} {
			refusedPair(t, heap(wrong.h), word(wrong.w), fine, word(w))
			refusedPair(t, fine, word(w), heap(wrong.h), word(wrong.w))
		}
		refusedPair(t, heap(wrong.h), word(wrong.w), heap(wrong.h), word(wrong.w))
	}
}
