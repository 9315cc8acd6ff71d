package show_test

import (
	"math/rand"
	"slices"
	"testing"

	"dapple/api"
	"dapple/show"
)

// textOf is the text of a word that fits.
func textOf(t *testing.T, h []api.Cell, w api.Word) string {
	t.Helper()
	s, e := show.Show(h, names(), w)
	if e != api.OK || s == "" {
		t.Fatalf("%s: %q, %d", told(h, w), s, e)
	}
	return s
}

// isAlike is what Alike tells of words that fit.
func isAlike(t *testing.T, h []api.Cell, v api.Word, g []api.Cell, w api.Word) bool {
	t.Helper()
	is, e := show.Alike(h, v, g, w)
	if e != api.OK {
		t.Fatalf("%s and %s: %d", told(h, v), told(g, w), e)
	}
	return is
}

// eachDrawn hands on many heaps, small ones and greater ones, with words that fit them.
func eachDrawn(seed int64, do func(r *rand.Rand, h []api.Cell, w api.Word)) {
	r := rand.New(rand.NewSource(seed))
	for i := range 20000 {
		most := 8
		if i%5 == 0 {
			most = 60
		}
		h, w := drawnFrom(r, most)
		do(r, h, w)
	}
}

// disguised is the same to be seen: cells change places, others stand among them; colours, cells that are not met, and fields that are none are drawn anew.
func disguised(r *rand.Rand, h []api.Cell, w api.Word) ([]api.Cell, api.Word) {
	all := len(h) + r.Intn(4)
	place := r.Perm(all)
	move := func(w api.Word) api.Word {
		if w%16 == 8 {
			return ref(place[w>>4])
		}
		return w
	}
	_, met := plainMet(h, w)
	out := make([]api.Cell, all)
	for i := range out {
		c := api.Cell{Kind: api.Kind(r.Intn(4)), Colour: api.Colour(r.Intn(3)), A: drawnWord(r, all), B: drawnWord(r, all)}
		if slices.Contains(met, i) {
			c.Kind, c.A = h[i].Kind, move(h[i].A)
			if c.Kind != api.KindBox {
				c.B = move(h[i].B)
			}
		}
		out[place[i]] = c
	}
	return out, move(w)
}

// changed is a heap of which one cell that is met, or the word, is another one, if that fits.
func changed(r *rand.Rand, h []api.Cell, w api.Word) ([]api.Cell, api.Word) {
	g, v := slices.Clone(h), w
	_, met := plainMet(h, w)
	if len(met) == 0 || r.Intn(10) == 0 {
		v = drawnWord(r, len(h))
	} else {
		change(r, g, &g[met[r.Intn(len(met))]], met)
	}
	if !plainFits(g, v) {
		return h, w
	}
	return g, v
}

// change makes a cell another one, by a little.
func change(r *rand.Rand, h []api.Cell, c *api.Cell, met []int) {
	switch r.Intn(5) {
	case 0:
		c.A = drawnWord(r, len(h))
	case 1:
		c.B = drawnWord(r, len(h))
	case 2:
		c.A, c.B = c.B, c.A
	case 3:
		*c = h[met[r.Intn(len(met))]]
	default:
		*c = drawnCell(r, len(h))
	}
}

// TestOneTextJustIfAlike: of heaps in disguise, and of those that are changed by a little; Alike is what the plain one tells, where it can try all pairings.
func TestOneTextJustIfAlike(t *testing.T) {
	same, other, tried := 0, 0, 0
	eachDrawn(113, func(r *rand.Rand, h []api.Cell, v api.Word) {
		g, w := disguised(r, h, v)
		for range r.Intn(3) {
			g, w = changed(r, g, w)
		}
		is := isAlike(t, h, v, g, w)
		if is != (textOf(t, h, v) == textOf(t, g, w)) {
			t.Fatalf("%s and %s: %v, but %q and %q", told(h, v), told(g, w), is, textOf(t, h, v), textOf(t, g, w))
		}
		if _, met := plainMet(h, v); len(met) <= 6 {
			tried++
			if is != plainAlike(h, v, g, w) {
				t.Fatalf("%s and %s: %v", told(h, v), told(g, w), is)
			}
		}
		if is {
			same++
		} else {
			other++
		}
	})
	if same < 4000 || other < 4000 || tried < 10000 {
		t.Errorf("%d look the same, %d do not, %d were tried", same, other, tried)
	}
}

// TestAllPairsOfSmallHeaps: all words of all heaps of two cells with each other.
func TestAllPairsOfSmallHeaps(t *testing.T) {
	type view struct {
		h    []api.Cell
		w    api.Word
		text string
	}
	var all []view
	eachList(2, smallCells(2), func(h []api.Cell) {
		for i := range h {
			if w := ref(i); plainFits(h, w) {
				all = append(all, view{slices.Clone(h), w, textOf(t, h, w)})
			}
		}
	})
	same := 0
	for _, a := range all {
		for _, b := range all {
			is := isAlike(t, a.h, a.w, b.h, b.w)
			if is != (a.text == b.text) || is != plainAlike(a.h, a.w, b.h, b.w) {
				t.Fatalf("%s and %s: %v, but %q and %q", told(a.h, a.w), told(b.h, b.w), is, a.text, b.text)
			}
			if is {
				same++
			}
		}
	}
	if len(all) < 500 || same <= len(all) {
		t.Errorf("%d of %d times %d look the same", same, len(all), len(all))
	}
}

// TestForAllNames: whatever names there are, one text is another's just if it is by others.
func TestForAllNames(t *testing.T) {
	lists := [][]string{{"a", "b", "c"}, {"c", "b", "a"}, {"x#0#", "=", "...", "more"}}
	eachDrawn(114, func(r *rand.Rand, h []api.Cell, v api.Word) {
		g, w := disguised(r, h, v)
		if r.Intn(2) == 0 {
			g, w = changed(r, g, w)
		}
		is := isAlike(t, h, v, g, w)
		for _, list := range lists {
			one, e := show.Show(h, list, v)
			other, e2 := show.Show(g, list, w)
			if e != api.OK || e2 != api.OK || is != (one == other) {
				t.Fatalf("%s and %s: %v, but %q and %q", told(h, v), told(g, w), is, one, other)
			}
		}
	})
}

// TestWhatIsNotSeen: numbers of cells, cells that are not met, colours, fields that are none.
func TestWhatIsNotSeen(t *testing.T) {
	eachDrawn(115, func(r *rand.Rand, h []api.Cell, v api.Word) {
		want := textOf(t, h, v)
		for range 3 {
			g, w := disguised(r, h, v)
			if got := textOf(t, g, w); got != want {
				t.Fatalf("%s and %s: %q and %q", told(h, v), told(g, w), want, got)
			}
			alike(t, h, v, g, w, true)
		}
	})
}

// TestTextsSayAll: what is read out of a text looks like what was shown, and has no cell that is not met.
func TestTextsSayAll(t *testing.T) {
	eachDrawn(116, func(_ *rand.Rand, h []api.Cell, v api.Word) {
		text := textOf(t, h, v)
		g, w, _ := read(text, names())
		alike(t, h, v, g, w, true)
		if _, met := plainMet(h, v); len(met) != len(g) {
			t.Fatalf("%s: %q tells of %d cells", told(h, v), text, len(g))
		}
	})
}

// TestCountsOfLabels: as many as cells that are met more than once, and as many that come again as these are met besides.
func TestCountsOfLabels(t *testing.T) {
	labels := 0
	eachDrawn(117, func(_ *rand.Rand, h []api.Cell, v api.Word) {
		met, cells := plainMet(h, v)
		twice, besides := 0, 0
		for _, cell := range cells {
			times := 0
			for _, w := range met {
				if w == ref(cell) {
					times++
				}
			}
			if times > 1 {
				twice++
				besides += times - 1
			}
		}
		text := textOf(t, h, v)
		_, _, r := read(text, names())
		if len(r.labels) != twice || r.again != besides {
			t.Fatalf("%s: %q has %d labels, which come again %d times, not %d and %d", told(h, v), text, len(r.labels), r.again, twice, besides)
		}
		labels += twice
	})
	if labels < 20000 {
		t.Errorf("only %d labels", labels)
	}
}

// TestAlikeBothWaysRound: and of three words of which two pairs look the same the third pair does.
func TestAlikeBothWaysRound(t *testing.T) {
	threes := 0
	eachDrawn(118, func(r *rand.Rand, h []api.Cell, u api.Word) {
		maybe := func(h []api.Cell, w api.Word) ([]api.Cell, api.Word) {
			g, v := disguised(r, h, w)
			if r.Intn(3) == 0 {
				g, v = changed(r, g, v)
			}
			return g, v
		}
		g, v := maybe(h, u)
		f, w := maybe(g, v)
		one, two, three := isAlike(t, h, u, g, v), isAlike(t, g, v, f, w), isAlike(t, h, u, f, w)
		alike(t, h, u, g, v, one)
		alike(t, g, v, f, w, two)
		alike(t, h, u, f, w, three)
		if one && two && !three || one && three && !two || two && three && !one {
			t.Fatalf("%s, %s, %s: %v, %v, %v", told(h, u), told(g, v), told(f, w), one, two, three)
		}
		if one && two {
			threes++
		}
	})
	if threes < 4000 {
		t.Errorf("only %d threes look the same", threes)
	}
}
