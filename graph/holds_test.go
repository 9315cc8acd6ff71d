package graph_test

import (
	"fmt"
	"math/rand"
	"slices"
	"testing"

	"dapple/api"
	"dapple/graph"
	"dapple/words"
)

// answers are what the calls answer for a heap that may be.
type answers struct {
	reached []bool
	order   []int
	paths   [][]int
}

func answersOf(t *testing.T, h []api.Cell, roots []api.Word) answers {
	t.Helper()
	reached, e := graph.Reach(h, roots...)
	order, e2 := graph.Order(h, roots...)
	if e != api.OK || e2 != api.OK || len(reached) != len(h) {
		t.Fatalf("%s: %d, %d, %d cells", told(h, roots), e, e2, len(reached))
	}
	out := answers{reached: reached, order: order}
	for to := range h {
		way, ok, e := graph.Path(h, to, roots...)
		if e != api.OK || ok != (len(way) > 0) {
			t.Fatalf("%s: the way to %d: %v, %v, %d", told(h, roots), to, way, ok, e)
		}
		out.paths = append(out.paths, way)
	}
	return out
}

// eachDrawn hands on many heaps that may be, small ones and greater ones, with roots.
func eachDrawn(t *testing.T, seed int64, do func(r *rand.Rand, h []api.Cell, roots []api.Word)) {
	t.Helper()
	r := rand.New(rand.NewSource(seed))
	for i := range 5000 {
		most := 7
		if i%5 == 0 {
			most = 60
		}
		h := drawnHeap(r, most)
		do(r, h, drawnRoots(r, len(h)))
	}
}

// named tells whether a word of the list names the cell.
func named(cell int, l ...api.Word) bool { return slices.Contains(l, words.Ref(cell)) }

// TestReachedIsClosed: what a root names is reached, what a reached cell that is not free names is, and each other one has nobody who is reached to name it.
func TestReachedIsClosed(t *testing.T) {
	eachDrawn(t, 102, func(_ *rand.Rand, h []api.Cell, roots []api.Word) {
		a := answersOf(t, h, roots)
		for cell := range h {
			has := named(cell, roots...)
			for by, c := range h {
				has = has || a.reached[by] && c.Kind != api.KindFree && named(cell, c.A, c.B) && by != cell
			}
			if a.reached[cell] != has {
				t.Fatalf("%s: %d is reached: %v", told(h, roots), cell, a.reached[cell])
			}
			if a.reached[cell] != (len(a.paths[cell]) > 0) {
				t.Fatalf("%s: the way to %d: %v", told(h, roots), cell, a.paths[cell])
			}
		}
	})
}

// isWay tells whether a row is one that leads to a cell.
func isWay(h []api.Cell, roots []api.Word, row []int, to int) bool {
	for i, cell := range row {
		if i == 0 && !named(cell, roots...) {
			return false
		}
		if i > 0 {
			ahead := h[row[i-1]]
			if ahead.Kind == api.KindFree || !named(cell, ahead.A, ahead.B) {
				return false
			}
		}
	}
	return row[len(row)-1] == to
}

// better tells whether one row is to be taken ahead of another one.
func better(one, other []int) bool {
	if len(one) != len(other) {
		return len(one) < len(other)
	}
	return slices.Compare(one, other) < 0
}

// TestPathsAreTheLeast: each is a way; none that leads over another cell's Path, or straight from a root, is better.
func TestPathsAreTheLeast(t *testing.T) {
	several := 0
	eachDrawn(t, 103, func(_ *rand.Rand, h []api.Cell, roots []api.Word) {
		a := answersOf(t, h, roots)
		for to, way := range a.paths {
			if len(way) == 0 {
				continue
			}
			if !isWay(h, roots, way, to) {
				t.Fatalf("%s: no way to %d: %v", told(h, roots), to, way)
			}
			others := [][]int{}
			if named(to, roots...) {
				others = append(others, []int{to})
			}
			for by, c := range h {
				if len(a.paths[by]) > 0 && c.Kind != api.KindFree && named(to, c.A, c.B) {
					others = append(others, append(slices.Clone(a.paths[by]), to))
				}
			}
			as := 0
			for _, other := range others {
				if better(other, way) {
					t.Fatalf("%s: the way to %d: %v, not %v", told(h, roots), to, way, other)
				}
				if len(other) == len(way) {
					as++
				}
			}
			if as > 1 {
				several++
			}
		}
	})
	if several < 300 {
		t.Errorf("only %d cells have several shortest ways", several)
	}
}

// TestOrderIsReach: each reached cell stands in it once, and along it Paths don't get shorter.
func TestOrderIsReach(t *testing.T) {
	eachDrawn(t, 104, func(_ *rand.Rand, h []api.Cell, roots []api.Word) {
		a := answersOf(t, h, roots)
		var want []int
		for cell, reached := range a.reached {
			if reached {
				want = append(want, cell)
			}
		}
		if !slices.Equal(slices.Sorted(slices.Values(a.order)), want) {
			t.Fatalf("%s: %v, not %v", told(h, roots), a.order, want)
		}
		for i := 1; i < len(a.order); i++ {
			if len(a.paths[a.order[i]]) < len(a.paths[a.order[i-1]]) {
				t.Fatalf("%s: %v: the way gets shorter at %d", told(h, roots), a.order, i)
			}
		}
	})
}

// formOf is the Form of a heap that may be.
func formOf(t *testing.T, h []api.Cell, roots []api.Word) ([]api.Cell, []api.Word) {
	t.Helper()
	cells, own, e := graph.Form(h, roots...)
	if e != api.OK {
		t.Fatalf("%s: %d", told(h, roots), e)
	}
	return cells, own
}

// TestFormOfForm: a form is a heap with roots, all of it reached, in its own order, and its own form.
func TestFormOfForm(t *testing.T) {
	eachDrawn(t, 105, func(_ *rand.Rand, h []api.Cell, roots []api.Word) {
		cells, own := formOf(t, h, roots)
		checks(t, cells, api.OK, 0)
		hasForm(t, cells, own, cells, own)
		order, _ := graph.Order(cells, own...)
		for i, cell := range order {
			if i != cell {
				t.Fatalf("%s: %v", told(h, roots), order)
			}
		}
		if len(order) != len(cells) {
			t.Fatalf("%s: %v of %d", told(h, roots), order, len(cells))
		}
	})
}

// renumbered is a heap with its cells numbered otherwise, other colours, and, if they are not reached, other things in them; some more cells stand among them.
func renumbered(r *rand.Rand, h []api.Cell, roots []api.Word) ([]api.Cell, []api.Word) {
	all := len(h) + r.Intn(4)
	number := r.Perm(all)
	move := func(w api.Word) api.Word {
		if cell, ok := words.Cell(w); ok && cell < len(h) {
			return ref(number[cell])
		}
		return w
	}
	reached, _ := graph.Reach(h, roots...)
	out := make([]api.Cell, all)
	for i := range out {
		out[number[i]] = api.Cell{Kind: api.Kind(r.Intn(4)), Colour: api.Colour(r.Intn(3)), A: drawnWord(r, all), B: drawnWord(r, all)}
		if i < len(h) && reached[i] {
			out[number[i]].Kind = h[i].Kind
		}
		if i < len(h) && reached[i] && h[i].Kind != api.KindFree {
			out[number[i]].A, out[number[i]].B = move(h[i].A), move(h[i].B)
		}
	}
	var own []api.Word
	for _, w := range roots {
		own = append(own, move(w))
	}
	return out, own
}

// TestHeapsNumberedOtherwise: they have one Form.
func TestHeapsNumberedOtherwise(t *testing.T) {
	eachDrawn(t, 106, func(r *rand.Rand, h []api.Cell, roots []api.Word) {
		cells, own := formOf(t, h, roots)
		other, otherRoots := renumbered(r, h, roots)
		hasForm(t, other, otherRoots, cells, own)
	})
}

// TestHeapsThatLookAlike: one word or kind of what is reached is changed, and the Form is another one just if no numbering makes them the same.
func TestHeapsThatLookAlike(t *testing.T) {
	r := rand.New(rand.NewSource(107))
	one, another := 0, 0
	for range 8000 {
		h := drawnHeap(r, 5)
		roots := drawnRoots(r, len(h))
		other, otherRoots := renumbered(r, h, roots)
		for len(other) > 0 && r.Intn(4) > 0 {
			switch c := &other[r.Intn(len(other))]; r.Intn(3) {
			case 0:
				c.A = drawnWord(r, len(other))
			case 1:
				c.A, c.B = c.B, c.A
			default:
				c.Kind = api.Kind(1 + r.Intn(3))
				c.A, c.B = drawnWord(r, len(other)), drawnWord(r, len(other))
			}
		}
		cells, own := formOf(t, h, roots)
		otherCells, otherOwn := formOf(t, other, otherRoots)
		same := slices.Equal(cells, otherCells) && slices.Equal(own, otherOwn)
		if same != alike(h, roots, other, otherRoots) {
			t.Fatalf("%s and %s: one form: %v", told(h, roots), told(other, otherRoots), same)
		}
		if same {
			one++
		} else {
			another++
		}
	}
	if one < 1000 || another < 1000 {
		t.Errorf("%d are alike, %d are not", one, another)
	}
}

// alike tells whether some numbering of one heap's reached cells makes them the other one's: all numberings are tried.
func alike(h []api.Cell, roots []api.Word, other []api.Cell, otherRoots []api.Word) bool {
	mine, theirs := cellsOf(plainReach(h, roots)), cellsOf(plainReach(other, otherRoots))
	if len(mine) != len(theirs) || len(roots) != len(otherRoots) {
		return false
	}
	found := false
	eachPermutation(theirs, func(row []int) {
		found = found || fits(h, roots, other, otherRoots, mine, row)
	})
	return found
}

func cellsOf(reached []bool) []int {
	var out []int
	for cell, is := range reached {
		if is {
			out = append(out, cell)
		}
	}
	return out
}

func eachPermutation(l []int, do func([]int)) {
	var from func(at int)
	from = func(at int) {
		if at >= len(l) {
			do(l)
			return
		}
		for i := at; i < len(l); i++ {
			l[at], l[i] = l[i], l[at]
			from(at + 1)
			l[at], l[i] = l[i], l[at]
		}
	}
	from(0)
}

// fits tells whether the cells of mine are those of theirs, place by place.
func fits(h []api.Cell, roots []api.Word, other []api.Cell, otherRoots []api.Word, mine, theirs []int) bool {
	same := func(w, u api.Word) bool {
		if w%16 == 8 && u%16 == 8 {
			return slices.Index(mine, int(w>>4)) == slices.Index(theirs, int(u>>4))
		}
		return w == u
	}
	for i, cell := range mine {
		c, d := h[cell], other[theirs[i]]
		if c.Kind != d.Kind || c.Kind != api.KindFree && !(same(c.A, d.A) && same(c.B, d.B)) {
			return false
		}
	}
	return slices.EqualFunc(roots, otherRoots, same)
}

// rooted is a heap with roots.
type rooted struct {
	cells []api.Cell
	roots []api.Word
}

// TestAllPairsOfSmallHeaps: of all heaps of two cells with up to two roots, two have one Form just if they are the same but for numbers.
func TestAllPairsOfSmallHeaps(t *testing.T) {
	some := heapOf("free n n, box r0 n, box r1 n")
	for _, a := range wordsOf("n r0 r1") {
		for _, b := range wordsOf("n r0 r1") {
			some = append(some, api.Cell{Kind: api.KindPair, A: a, B: b})
		}
	}
	var all []rooted
	var keys []string
	eachList(2, some, func(h []api.Cell) {
		for many := range 3 {
			eachList(many, wordsOf("n r0 r1"), func(roots []api.Word) {
				cells, own := formOf(t, h, roots)
				all = append(all, rooted{slices.Clone(h), slices.Clone(roots)})
				keys = append(keys, fmt.Sprint(cells, own))
			})
		}
	})
	pairs, one := 0, 0
	for i, a := range all {
		for j := i%3 + 1; j < i; j += 3 {
			pairs++
			if keys[i] == keys[j] {
				one++
			}
			if b := all[j]; (keys[i] == keys[j]) != alike(a.cells, a.roots, b.cells, b.roots) {
				t.Fatalf("%s and %s: %s and %s", told(a.cells, a.roots), told(b.cells, b.roots), keys[i], keys[j])
			}
		}
	}
	if pairs < 500000 || one < 1000 {
		t.Errorf("%d of %d pairs have one form", one, pairs)
	}
}
