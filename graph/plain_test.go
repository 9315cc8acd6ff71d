package graph_test

import (
	"math/rand"
	"slices"
	"testing"

	"dapple/api"
	"dapple/graph"
)

// The chapter once more, in the plainest way: sets and rows are made again and again, till nothing comes to them.

// plainWord tells by its bits whether w is a word that fits a heap of so many cells.
func plainWord(w api.Word, cells int) bool {
	n := int64(w) >> 4
	switch api.Tag(w % 16) {
	case api.TagNil, api.TagFalse, api.TagTrue, api.TagNone:
		return n == 0
	case api.TagInt:
		return true
	case api.TagSymbol:
		return 0 <= n && n <= 2147483647
	case api.TagPrim:
		return 1 <= n && n <= 22
	case api.TagRef:
		return 0 <= n && n < int64(cells)
	}
	return false
}

// plainWrong are all cells that may not be.
func plainWrong(h []api.Cell) []int {
	var out []int
	for i, c := range h {
		words := c.Kind == 0 || plainWord(c.A, len(h)) && plainWord(c.B, len(h))
		if c.Kind > 3 || c.Colour > 2 || !words {
			out = append(out, i)
		}
	}
	return out
}

// plainRefused tells whether the calls with roots refuse.
func plainRefused(h []api.Cell, roots []api.Word) bool {
	wrong := slices.ContainsFunc(roots, func(w api.Word) bool { return !plainWord(w, len(h)) })
	return wrong || len(plainWrong(h)) > 0
}

// plainNamed are the cells that words name.
func plainNamed(l ...api.Word) []int {
	var out []int
	for _, w := range l {
		if w%16 == 8 {
			out = append(out, int(w>>4))
		}
	}
	return out
}

// plainNext are the cells that a cell names, if it is not free.
func plainNext(c api.Cell) []int {
	if c.Kind == api.KindFree {
		return nil
	}
	return plainNamed(c.A, c.B)
}

// plainReach is the least set that has what the roots name, and what its own cells name.
func plainReach(h []api.Cell, roots []api.Word) []bool {
	out := make([]bool, len(h))
	for _, cell := range plainNamed(roots...) {
		out[cell] = true
	}
	for {
		before := slices.Clone(out)
		for cell := range h {
			for _, next := range plainNext(h[cell]) {
				out[next] = out[next] || out[cell]
			}
		}
		if slices.Equal(before, out) {
			return out
		}
	}
}

// firsts is a list with each number where it stands first alone.
func firsts(l []int) []int {
	var out []int
	for i, n := range l {
		if slices.Index(l, n) == i {
			out = append(out, n)
		}
	}
	return out
}

// plainOrder is the row that is what the roots name, and what its own cells name, one by one, each once.
func plainOrder(h []api.Cell, roots []api.Word) []int {
	var row []int
	for {
		all := plainNamed(roots...)
		for _, cell := range row {
			all = append(all, plainNext(h[cell])...)
		}
		next := firsts(all)
		if slices.Equal(next, row) {
			return row
		}
		row = next
	}
}

// plainForm numbers what is reached by the places in the row.
func plainForm(h []api.Cell, roots []api.Word) ([]api.Cell, []api.Word) {
	row := plainOrder(h, roots)
	place := func(w api.Word) api.Word {
		for _, cell := range plainNamed(w) {
			return ref(slices.Index(row, cell))
		}
		return w
	}
	var cells []api.Cell
	for _, at := range row {
		c := api.Cell{Kind: h[at].Kind}
		if c.Kind != api.KindFree {
			c.A, c.B = place(h[at].A), place(h[at].B)
		}
		cells = append(cells, c)
	}
	var own []api.Word
	for _, w := range roots {
		own = append(own, place(w))
	}
	return cells, own
}

// plainPath is the least of all shortest rows: all rows of one cell, of two, and so on are made. Those that meet a cell twice are none of the shortest.
func plainPath(h []api.Cell, to int, roots []api.Word) []int {
	var rows [][]int
	for _, cell := range plainNamed(roots...) {
		rows = append(rows, []int{cell})
	}
	for len(rows) > 0 {
		there := slices.DeleteFunc(slices.Clone(rows), func(row []int) bool { return row[len(row)-1] != to })
		if len(there) > 0 {
			return slices.MinFunc(there, slices.Compare[[]int])
		}
		var longer [][]int
		for _, row := range rows {
			for _, next := range plainNext(h[row[len(row)-1]]) {
				if !slices.Contains(row, next) {
					longer = append(longer, append(slices.Clone(row), next))
				}
			}
		}
		rows = longer
	}
	return nil
}

// plainAll holds all calls against the plain ones.
func plainAll(t *testing.T, h []api.Cell, roots []api.Word) {
	t.Helper()
	if wrong := plainWrong(h); len(wrong) > 0 {
		checks(t, h, api.ErrGraphForm, wrong[0])
	} else {
		checks(t, h, api.OK, 0)
	}
	if plainRefused(h, roots) {
		refused(t, h, roots...)
		return
	}
	reaches(t, h, roots, plainReach(h, roots))
	orders(t, h, roots, plainOrder(h, roots))
	cells, own := plainForm(h, roots)
	hasForm(t, h, roots, cells, own)
	for to := range h {
		leads(t, h, to, roots, plainPath(h, to, roots))
	}
	refusedPath(t, h, -1, roots...)
	refusedPath(t, h, len(h), roots...)
}

// eachList hands on all lists of n of some things; one list's memory is the next one's.
func eachList[T any](n int, some []T, do func([]T)) {
	list := make([]T, 0, n)
	var fill func()
	fill = func() {
		if len(list) == n {
			do(list)
			return
		}
		for _, one := range some {
			list = append(list, one)
			fill()
			list = list[:len(list)-1]
		}
	}
	fill()
}

// smallCells are a free cell that names another one, and pairs of nil and of references to some cells.
func smallCells(cells int) []api.Cell {
	out := heapOf("free r0 r1")
	fit := []api.Word{wordOf("n")}
	for i := range cells {
		fit = append(fit, ref(i))
	}
	eachList(2, fit, func(l []api.Word) { out = append(out, api.Cell{Kind: api.KindPair, A: l[0], B: l[1]}) })
	return out
}

// TestAllSmallHeaps: all heaps of up to three cells of one kind, and free ones, with up to two roots; references one too far among them, where they are few.
func TestAllSmallHeaps(t *testing.T) {
	heaps := 0
	for n := range 4 {
		far := n
		if n < 3 {
			far++
		}
		eachList(n, smallCells(far), func(h []api.Cell) {
			heaps++
			for many := range 3 {
				if n == 3 && many == 2 && heaps%5 > 0 {
					continue
				}
				rootWords := []api.Word{wordOf("n")}
				for i := range far {
					rootWords = append(rootWords, ref(i))
				}
				eachList(many, rootWords, func(roots []api.Word) { plainAll(t, h, roots) })
			}
		})
	}
	if heaps != 1+10+17*17+17*17*17 {
		t.Errorf("%d heaps", heaps)
	}
}

// drawnWord is a word that fits a heap of so many cells, mostly a reference.
func drawnWord(r *rand.Rand, cells int) api.Word {
	if cells > 0 && r.Intn(4) > 0 {
		return ref(r.Intn(cells))
	}
	others := wordsOf("n f t none 0 1 2 -1 s0 s1 p1 p2")
	return others[r.Intn(len(others))]
}

// drawnHeap is one that may be.
func drawnHeap(r *rand.Rand, most int) []api.Cell {
	h := make([]api.Cell, r.Intn(most+1))
	for i := range h {
		h[i] = api.Cell{Kind: api.Kind(1 + r.Intn(3)), Colour: api.Colour(r.Intn(3)), A: drawnWord(r, len(h)), B: drawnWord(r, len(h))}
		if r.Intn(6) == 0 {
			h[i].Kind = api.KindFree
		}
		if h[i].Kind == api.KindFree && r.Intn(2) == 0 {
			h[i].A = api.Word(r.Uint64())
		}
	}
	return h
}

func drawnRoots(r *rand.Rand, cells int) []api.Word {
	var out []api.Word
	for range r.Intn(4) {
		out = append(out, drawnWord(r, cells))
	}
	return out
}

// spoilt lays something into a heap that may not be there, unless the cell is free.
func spoilt(r *rand.Rand, h []api.Cell) {
	if len(h) == 0 {
		return
	}
	c := &h[r.Intn(len(h))]
	wrong := []api.Word{0, ref(len(h)), ref(-1), api.Word(r.Uint64()), bits(api.TagNil, 1), bits(api.TagPrim, 23)}
	switch r.Intn(6) {
	case 0:
		c.Kind = api.Kind(4 + r.Intn(252))
	case 1:
		c.Colour = api.Colour(3 + r.Intn(253))
	case 2, 3:
		c.A = wrong[r.Intn(len(wrong))]
	default:
		c.B = wrong[r.Intn(len(wrong))]
	}
}

// TestDrawnHeaps: heaps and roots that may be, and some that may not.
func TestDrawnHeaps(t *testing.T) {
	r := rand.New(rand.NewSource(101))
	wrong, fine, ways := 0, 0, 0
	for range 12000 {
		h := drawnHeap(r, 8)
		roots := drawnRoots(r, len(h))
		if r.Intn(4) == 0 {
			spoilt(r, h)
		}
		if len(roots) > 0 && r.Intn(8) == 0 {
			roots[r.Intn(len(roots))] = []api.Word{0, ref(len(h)), ref(-1), api.Word(r.Uint64())}[r.Intn(4)]
		}
		plainAll(t, h, roots)
		if plainRefused(h, roots) {
			wrong++
			continue
		}
		fine++
		if row, _ := graph.Order(h, roots...); len(row) > 4 {
			ways++
		}
	}
	if wrong < 2000 || fine < 5000 || ways < 500 {
		t.Errorf("%d wrong, %d fine, %d with ways", wrong, fine, ways)
	}
}

// heapOfBytes makes a heap and roots of any bytes: a number of cells, three bytes a cell, the rest are roots.
func heapOfBytes(b []byte) ([]api.Cell, []api.Word) {
	if len(b) == 0 {
		return nil, nil
	}
	n := min(int(b[0])%9, (len(b)-1)/3)
	b = b[1:]
	word := func(x byte) api.Word {
		if x < 16 {
			return ref(int(x))
		}
		return api.Word(x - 16)
	}
	var h []api.Cell
	for range n {
		h = append(h, api.Cell{Kind: api.Kind(b[0] % 5), Colour: api.Colour(b[0] / 5 % 4), A: word(b[1]), B: word(b[2])})
		b = b[3:]
	}
	var roots []api.Word
	for _, x := range b[:min(len(b), 6)] {
		roots = append(roots, word(x))
	}
	return h, roots
}

func FuzzPlain(f *testing.F) {
	f.Add([]byte{})
	f.Add([]byte{4, 1, 2, 17, 1, 17, 17, 1, 0, 3, 1, 101, 17, 0})
	f.Add([]byte{2, 0, 1, 1, 3, 0, 1, 1, 17})
	f.Add([]byte{3, 4, 17, 17, 16, 17, 17, 1, 16, 2, 9})
	f.Fuzz(func(t *testing.T, b []byte) {
		h, roots := heapOfBytes(b)
		plainAll(t, h, roots)
	})
}
