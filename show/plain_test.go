package show_test

import (
	"math/rand"
	"regexp"
	"slices"
	"strconv"
	"testing"

	"dapple/api"
	"dapple/lex"
	"dapple/show"
)

// The chapter once more, in the plainest way: what is met is made again and again, till nothing comes to it; texts are put together of texts; all pairings are tried.

// plainWord tells by its bits whether w is a word that may stand in a heap of so many cells.
func plainWord(w api.Word, cells int) bool {
	n := int64(w) >> 4
	switch api.Tag(w % 16) {
	case api.TagNil, api.TagFalse, api.TagTrue, api.TagNone:
		return n == 0
	case api.TagInt:
		return true
	case api.TagSymbol:
		return 0 <= n && n <= 2147483647
	case api.TagPrim:
		return 1 <= n && n <= 22
	case api.TagRef:
		return 0 <= n && n < int64(cells)
	}
	return false
}

// plainStill tells whether a heap stands still.
func plainStill(h []api.Cell) bool {
	for _, c := range h {
		if c.Kind > 3 || c.Colour > 2 || c.Kind > 0 && !(plainWord(c.A, len(h)) && plainWord(c.B, len(h))) {
			return false
		}
	}
	return true
}

// plainFields are a cell's.
func plainFields(c api.Cell) []api.Word {
	return [][]api.Word{nil, {c.A, c.B}, {c.A}, {c.B}}[c.Kind]
}

// plainMet are the words that are met, and the cells that they name.
func plainMet(h []api.Cell, w api.Word) ([]api.Word, []int) {
	var cells []int
	for {
		met := []api.Word{w}
		for _, cell := range cells {
			met = append(met, plainFields(h[cell])...)
		}
		more := slices.Clone(cells)
		for _, m := range met {
			if m%16 == 8 && !slices.Contains(more, int(m>>4)) {
				more = append(more, int(m>>4))
			}
		}
		if len(more) == len(cells) {
			return met, cells
		}
		cells = more
	}
}

// plainFits tells whether w fits h.
func plainFits(h []api.Cell, w api.Word) bool {
	if !plainStill(h) || !plainWord(w, len(h)) {
		return false
	}
	_, cells := plainMet(h, w)
	for _, cell := range cells {
		c := h[cell]
		if c.Kind == api.KindFree || c.Kind == api.KindClosure && (c.A%16 != 5 || int64(c.A) < 0) {
			return false
		}
	}
	return true
}

// plainNamed tells whether names are some, and enough for the words.
func plainNamed(names []string, met []api.Word) bool {
	for i, s := range names {
		if !lex.IsSymbol(s) || slices.Index(names, s) != i {
			return false
		}
	}
	return !slices.ContainsFunc(met, func(w api.Word) bool { return w%16 == 6 && int(w>>4) >= len(names) })
}

// plainer puts texts together. A label stands there by its cell's number, behind a byte that no name has, till all is written.
type plainer struct {
	cells []api.Cell
	names []string
	met   []api.Word
	came  []int
}

func (p *plainer) times(w api.Word) int {
	n := 0
	for _, m := range p.met {
		if m == w {
			n++
		}
	}
	return n
}

func (p *plainer) text(w api.Word) string {
	n := int64(w) >> 4
	digits := strconv.FormatInt(n, 10)
	switch w % 16 {
	case 5:
		return digits
	case 6:
		return p.names[n]
	case 7:
		return "#prim" + digits
	case 8:
		if p.times(w) == 1 {
			return p.cell(p.cells[n])
		}
		if slices.Contains(p.came, int(n)) {
			return "#\x01" + digits + "\x01#"
		}
		p.came = append(p.came, int(n))
		return "#\x01" + digits + "\x01=" + p.cell(p.cells[n])
	}
	return []string{"", "()", "#f", "#t", "#none"}[w%16]
}

func (p *plainer) cell(c api.Cell) string {
	switch c.Kind {
	case api.KindPair:
		a := p.text(c.A)
		return "(" + a + p.tail(c.B) + ")"
	case api.KindBox:
		return "#box(" + p.text(c.A) + ")"
	}
	return "#proc" + strconv.FormatInt(int64(c.A)>>4, 10) + "(" + p.text(c.B) + ")"
}

func (p *plainer) tail(w api.Word) string {
	if w == 1 {
		return ""
	}
	if w%16 == 8 && p.cells[w>>4].Kind == api.KindPair && p.times(w) == 1 {
		c := p.cells[w>>4]
		a := p.text(c.A)
		return " " + a + p.tail(c.B)
	}
	return " . " + p.text(w)
}

// plainShow is the text of a word that fits.
func plainShow(h []api.Cell, names []string, w api.Word) string {
	met, _ := plainMet(h, w)
	p := &plainer{cells: h, names: names, met: met}
	text := p.text(w)
	var first []string
	return regexp.MustCompile("\x01[0-9]+\x01").ReplaceAllStringFunc(text, func(s string) string {
		if !slices.Contains(first, s) {
			first = append(first, s)
		}
		return strconv.Itoa(slices.Index(first, s))
	})
}

// plainAlike tries all pairings.
func plainAlike(h []api.Cell, v api.Word, g []api.Cell, w api.Word) bool {
	_, mine := plainMet(h, v)
	_, theirs := plainMet(g, w)
	if len(mine) != len(theirs) {
		return false
	}
	found := false
	eachOrder(slices.Clone(theirs), func(row []int) {
		found = found || isPairing(h, v, g, w, mine, row)
	})
	return found
}

// eachOrder hands on all orders of a list, whose memory is that of the next one.
func eachOrder(l []int, do func([]int)) {
	var from func(at int)
	from = func(at int) {
		if at >= len(l) {
			do(l)
			return
		}
		for i := at; i < len(l); i++ {
			l[at], l[i] = l[i], l[at]
			from(at + 1)
			l[at], l[i] = l[i], l[at]
		}
	}
	from(0)
}

// isPairing tells whether cells of mine may be paired with those of theirs, place by place.
func isPairing(h []api.Cell, v api.Word, g []api.Cell, w api.Word, mine, theirs []int) bool {
	same := func(x, y api.Word) bool {
		if x%16 == 8 && y%16 == 8 {
			return slices.Index(mine, int(x>>4)) == slices.Index(theirs, int(y>>4))
		}
		return x == y
	}
	for i, cell := range mine {
		c, d := h[cell], g[theirs[i]]
		if c.Kind != d.Kind || c.Kind == api.KindClosure && c.A != d.A || !slices.EqualFunc(plainFields(c), plainFields(d), same) {
			return false
		}
	}
	return same(v, w)
}

// againstPlain holds Show against the plain one.
func againstPlain(t *testing.T, h []api.Cell, names []string, w api.Word) {
	t.Helper()
	if !plainFits(h, w) {
		refusedBy(t, h, names, w)
		refusedPair(t, h, w, nil, 1)
		refusedPair(t, nil, 1, h, w)
		return
	}
	alike(t, h, w, h, w, true)
	if met, _ := plainMet(h, w); !plainNamed(names, met) {
		refusedBy(t, h, names, w)
		return
	}
	showsBy(t, h, names, w, plainShow(h, names, w))
}

// eachList hands on all lists of n of some things; one list's memory is the next one's.
func eachList[T any](n int, some []T, do func([]T)) {
	list := make([]T, n)
	var from func(at int)
	from = func(at int) {
		if at == n {
			do(list)
			return
		}
		for _, one := range some {
			list[at] = one
			from(at + 1)
		}
	}
	from(0)
}

// smallCells are a free cell, and cells of each other kind with nil or a reference to one of so many cells in each field; and some with other words.
func smallCells(cells int) []api.Cell {
	out := heap("free c0 x0, box 1 c0, closure 1 nil, closure -1 nil")
	fit := []api.Word{1}
	for i := range cells {
		fit = append(fit, ref(i))
	}
	for _, a := range fit {
		out = append(out, api.Cell{Kind: api.KindBox, A: a, B: 1}, api.Cell{Kind: api.KindClosure, A: word("0"), B: a})
		for _, b := range fit {
			out = append(out, api.Cell{Kind: api.KindPair, A: a, B: b})
		}
	}
	return out
}

// TestAllSmallHeaps: of up to two cells, with references one too far among them, and of three; from each cell.
func TestAllSmallHeaps(t *testing.T) {
	heaps, shown := 0, 0
	for n := range 4 {
		far := min(n+1, 3)
		eachList(n, smallCells(far), func(h []api.Cell) {
			heaps++
			for i := range far {
				againstPlain(t, h, nil, ref(i))
				if plainFits(h, ref(i)) {
					shown++
				}
			}
		})
	}
	if heaps != 1+19+28*28+28*28*28 || shown < 30000 {
		t.Errorf("%d heaps, %d are shown", heaps, shown)
	}
}

// drawnWord is a word that may stand in a heap of so many cells, mostly a reference.
func drawnWord(r *rand.Rand, cells int) api.Word {
	if cells > 0 && r.Intn(4) > 0 {
		return ref(r.Intn(cells))
	}
	others := []string{"nil", "nil", "nil", "#f", "#t", "#none", "0", "1", "-1", "s0", "s1", "s2", "p1", "p22"}
	return word(others[r.Intn(len(others))])
}

// drawnCell is one of a heap of so many cells.
func drawnCell(r *rand.Rand, cells int) api.Cell {
	kinds := []api.Kind{api.KindPair, api.KindPair, api.KindPair, api.KindBox, api.KindClosure}
	c := api.Cell{Kind: kinds[r.Intn(len(kinds))], Colour: api.Colour(r.Intn(3)), A: drawnWord(r, cells), B: drawnWord(r, cells)}
	if c.Kind == api.KindClosure {
		c.A = bits(api.TagInt, int64(r.Intn(3)))
	}
	return c
}

// drawnHeap has cells all of which may be met.
func drawnHeap(r *rand.Rand, most int) []api.Cell {
	h := make([]api.Cell, r.Intn(most+1))
	for i := range h {
		h[i] = drawnCell(r, len(h))
	}
	return h
}

// drawnFrom is a heap with a word that fits it.
func drawnFrom(r *rand.Rand, most int) ([]api.Cell, api.Word) {
	h := drawnHeap(r, most)
	if len(h) > 0 && r.Intn(20) > 0 {
		return h, ref(r.Intn(len(h)))
	}
	return h, drawnWord(r, len(h))
}

// spoilt lays something into a cell that may not be there, or may not be met.
func spoilt(r *rand.Rand, h []api.Cell) {
	if len(h) == 0 {
		return
	}
	c := &h[r.Intn(len(h))]
	wrong := []api.Word{0, ref(len(h)), ref(-1), api.Word(r.Uint64()), bits(api.TagNil, 1), bits(api.TagPrim, 23)}
	switch r.Intn(8) {
	case 0:
		c.Kind = api.Kind(4 + r.Intn(252))
	case 1:
		c.Colour = api.Colour(3 + r.Intn(253))
	case 2:
		c.A = wrong[r.Intn(len(wrong))]
	case 3:
		c.B = wrong[r.Intn(len(wrong))]
	case 4, 5:
		*c = api.Cell{A: api.Word(r.Uint64())}
	default:
		c.Kind, c.A = api.KindClosure, []api.Word{word("nil"), word("-1"), word("s0"), ref(0)}[r.Intn(4)]
	}
}

// TestDrawnHeaps: heaps, words and names that may be, and some that may not.
func TestDrawnHeaps(t *testing.T) {
	r := rand.New(rand.NewSource(111))
	lists := [][]string{names(), names(), names(), names(), {"a", "b"}, {"a"}, nil, {"b", "a", "b"}, {"a", "b", "7"}, {"x", "y", "z", "u"}}
	wrong, shown := 0, 0
	for range 20000 {
		h, w := drawnFrom(r, 8)
		if r.Intn(4) == 0 {
			spoilt(r, h)
		}
		if r.Intn(12) == 0 {
			w = []api.Word{0, ref(len(h)), ref(-1), api.Word(r.Uint64())}[r.Intn(4)]
		}
		list := lists[r.Intn(len(lists))]
		againstPlain(t, h, list, w)
		if _, e := show.Show(h, list, w); e != api.OK {
			wrong++
		} else {
			shown++
		}
	}
	if wrong < 4000 || shown < 8000 {
		t.Errorf("%d are wrong, %d are shown", wrong, shown)
	}
}

// TestDrawnGreaterHeaps: with more cells, and more labels.
func TestDrawnGreaterHeaps(t *testing.T) {
	r := rand.New(rand.NewSource(112))
	for range 400 {
		h, w := drawnFrom(r, 120)
		againstPlain(t, h, names(), w)
	}
}

// heapOfBytes makes a heap, how many names, and a word of any bytes: three bytes, then three bytes a cell.
func heapOfBytes(b []byte) ([]api.Cell, int, api.Word) {
	if len(b) < 3 {
		return nil, 0, 0
	}
	word := func(x byte) api.Word {
		if x < 16 {
			return ref(int(x))
		}
		return api.Word(x - 16)
	}
	var h []api.Cell
	for l := range slices.Chunk(b[3:min(len(b), 3+3*9)], 3) {
		if len(l) == 3 && len(h) < int(b[0])%10 {
			h = append(h, api.Cell{Kind: api.Kind(l[0] % 5), Colour: api.Colour(l[0] / 5 % 4), A: word(l[1]), B: word(l[2])})
		}
	}
	return h, int(b[1]) % 4, word(b[2])
}

func FuzzPlain(f *testing.F) {
	f.Add([]byte{})
	f.Add([]byte{2, 2, 0, 1, 101, 1, 1, 118, 1})
	f.Add([]byte{3, 3, 0, 3, 21, 1, 2, 2, 17, 1, 0, 22})
	f.Add([]byte{1, 0, 0, 3, 17, 17})
	f.Fuzz(func(t *testing.T, b []byte) {
		h, n, w := heapOfBytes(b)
		againstPlain(t, h, names()[:n], w)
	})
}
