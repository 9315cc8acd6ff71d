package barrier_test

import (
	"math/rand"
	"slices"
	"testing"

	"dapple/api"
	"dapple/barrier"
)

// The chapter once more, in the plainest way: by the bits of words alone, and all that hangs on something else is gone through again and again till nothing more comes.

// plainCell is the cell that a word names, of a heap of n; -1: it names none of them.
func plainCell(w api.Word, n int) int {
	if w%16 == 8 && w/16 < api.Word(n) {
		return int(w / 16)
	}
	return -1
}

// plainIsWord tells whether a word may stand in a heap of n cells.
func plainIsWord(w api.Word, n int) bool {
	number := int64(w) >> 4
	switch w % 16 {
	case 1, 2, 3, 4:
		return number == 0
	case 5:
		return true
	case 6:
		return 0 <= number && number < 1<<31
	case 7:
		return 1 <= number && number <= 22
	case 8:
		return 0 <= number && number < int64(n)
	}
	return false
}

func plainWhite(c api.Cell) bool { return c.Kind != 0 && c.Colour == 0 }

// plainShade are the cells to shade of some words.
func plainShade(h []api.Cell, l ...api.Word) []int {
	var out []int
	for i, w := range l {
		cell := plainCell(w, len(h))
		if cell >= 0 && plainWhite(h[cell]) && !slices.Contains(l[:i], w) {
			out = append(out, cell)
		}
	}
	return out
}

func plainStore(p api.Phase, scanned bool, old, next api.Word, h []api.Cell) []int {
	if p == 1 || p == 2 {
		if scanned {
			return plainShade(h, old)
		}
		return plainShade(h, old, next)
	}
	return nil
}

func plainFill(p api.Phase, scanned bool, a, b api.Word, h []api.Cell) []int {
	if (p == 1 || p == 2) && !scanned {
		return plainShade(h, a, b)
	}
	return nil
}

func plainMayBe(v api.View) bool {
	n := len(v.Cells)
	if v.Phase > 3 || v.Swept < 0 || v.Swept > n || v.Laid < 0 || v.Laid > len(v.Globals) {
		return false
	}
	all := slices.Clone(v.Globals)
	for _, l := range v.Lanes {
		all = append(all, l.Roots...)
	}
	for _, c := range v.Cells {
		if c.Kind > 3 || c.Colour > 2 {
			return false
		}
		if c.Kind != 0 {
			all = append(all, c.A, c.B)
		}
	}
	for _, w := range all {
		if !plainIsWord(w, n) {
			return false
		}
	}
	return slices.Equal(slices.Sorted(slices.Values(v.Grey)), greyOf(v.Cells))
}

// plainSources are the words of all sources; with well of those alone that are no lanes that run.
func plainSources(v api.View, well bool) []api.Word {
	var out []api.Word
	for _, c := range v.Cells {
		if c.Kind != 0 && c.Colour == 1 {
			out = append(out, c.A, c.B)
		}
	}
	out = append(out, v.Globals[v.Laid:]...)
	for _, l := range v.Lanes {
		if !l.Scanned && (l.Ended || !well) {
			out = append(out, l.Roots...)
		}
	}
	return out
}

// plainClosed are the cells that are among some, and that the words name or one of them does.
func plainClosed(h []api.Cell, from []api.Word, among func(api.Cell) bool) []bool {
	out := make([]bool, len(h))
	for again := true; again; {
		again = false
		all := slices.Clone(from)
		for i, c := range h {
			if out[i] {
				all = append(all, c.A, c.B)
			}
		}
		for _, w := range all {
			if cell := plainCell(w, len(h)); cell >= 0 && among(h[cell]) && !out[cell] {
				out[cell], again = true, true
			}
		}
	}
	return out
}

// plainPassed are the words of what the collector has passed.
func plainPassed(v api.View) []api.Word {
	out := slices.Clone(v.Globals[:v.Laid])
	for _, c := range v.Cells {
		if c.Kind != 0 && c.Colour == 2 {
			out = append(out, c.A, c.B)
		}
	}
	for _, l := range v.Lanes {
		if l.Scanned {
			out = append(out, l.Roots...)
		}
	}
	return out
}

// plainLive are the cells that are live and not free.
func plainLive(v api.View) []bool {
	roots := slices.Clone(v.Globals)
	for _, l := range v.Lanes {
		roots = append(roots, l.Roots...)
	}
	return plainClosed(v.Cells, roots, func(c api.Cell) bool { return c.Kind != 0 })
}

// verdict is all that is told of a view.
type verdict struct {
	by, well []bool
	holds    bool
	cell     int
	e, e2    api.Errno
}

func verdictOf(v api.View) verdict {
	var out verdict
	out.by, out.well, out.e = barrier.Guarded(v)
	out.holds, out.cell, out.e2 = barrier.Holds(v)
	return out
}

func (o verdict) is(other verdict) bool {
	return slices.Equal(o.by, other.by) && slices.Equal(o.well, other.well) && o.holds == other.holds && o.cell == other.cell && o.e == other.e && o.e2 == other.e2
}

func plainVerdict(v api.View) verdict {
	if !plainMayBe(v) {
		return verdict{e: 130, e2: 130}
	}
	out := verdict{
		by:    plainClosed(v.Cells, plainSources(v, false), plainWhite),
		well:  plainClosed(v.Cells, plainSources(v, true), plainWhite),
		holds: true,
	}
	if v.Phase == 0 || v.Phase == 3 {
		return out
	}
	live, passed := plainLive(v), plainPassed(v)
	for i := len(v.Cells) - 1; i >= 0; i-- {
		if plainWhite(v.Cells[i]) && (live[i] && !out.by[i] || slices.Contains(passed, ref(i)) && !out.well[i]) {
			out.holds, out.cell = false, i
		}
	}
	return out
}

// plainAll holds what is told of a view against the chapter.
func plainAll(t *testing.T, v api.View) verdict {
	t.Helper()
	got, want := verdictOf(v), plainVerdict(v)
	if !got.is(want) {
		t.Fatalf("%s: %v, not %v", told(v), got, want)
	}
	return got
}

// plainShades holds Store and Fill of two words against the chapter.
func plainShades(t *testing.T, p api.Phase, h []api.Cell, a, b api.Word) {
	t.Helper()
	for _, scanned := range []bool{false, true} {
		if got, want := barrier.Store(p, scanned, a, b, h), plainStore(p, scanned, a, b, h); !slices.Equal(got, want) {
			t.Fatalf("Store(%d, %v, %x, %x, %x): %v, not %v", p, scanned, a, b, h, got, want)
		}
		if got, want := barrier.Fill(p, scanned, a, b, h), plainFill(p, scanned, a, b, h); !slices.Equal(got, want) {
			t.Fatalf("Fill(%d, %v, %x, %x, %x): %v, not %v", p, scanned, a, b, h, got, want)
		}
	}
}

// fewCells are cells of all colours, free ones too, that name few words by A, and by B one of others.
func fewCells(a, b []api.Word) []api.Cell {
	out := heapOf("free r0 r1, grey free r0 r1, black free r0 r1")
	for colour := api.White; colour <= api.Black; colour++ {
		for _, x := range a {
			for _, y := range b {
				out = append(out, api.Cell{Kind: api.KindPair, Colour: colour, A: x, B: y})
			}
		}
	}
	return out
}

// eachList hands on all lists of so many things of some.
func eachList[T any](many int, some []T, do func([]T)) {
	l := make([]T, many)
	var from func(at int)
	from = func(at int) {
		if at == many {
			do(l)
			return
		}
		for _, one := range some {
			l[at] = one
			from(at + 1)
		}
	}
	from(0)
}

// fewLanes are all lanes with one Root of few, or none.
func fewLanes(roots []api.Word) []api.Lane {
	var out []api.Lane
	for i := range 4 {
		l := api.Lane{Scanned: i%2 == 1, Ended: i > 1}
		for _, w := range roots {
			l.Roots = []api.Word{w}
			out = append(out, l)
		}
	}
	return out
}

// TestAllSmallShades: all heaps of two cells, all pairs of few words.
func TestAllSmallShades(t *testing.T) {
	few := append(wordsOf("n r0 r1 r2"), ref(-1), 0, 8|1<<36)
	for many := range 3 {
		eachList(many, fewCells(wordsOf("n r0"), wordsOf("r1")), func(h []api.Cell) {
			for _, a := range few {
				for _, b := range few {
					for p := api.Phase(0); p < 6; p++ {
						plainShades(t, p, h, a, b)
					}
				}
			}
		})
	}
}

// eachSmallView hands on all views of these cells with one global of few and so many lanes with a Root of few.
func eachSmallView(many int, cells []api.Cell, few []api.Word, lanes int, do func(v api.View)) {
	eachList(many, cells, func(h []api.Cell) {
		for _, global := range few {
			eachList(lanes, fewLanes(few), func(l []api.Lane) {
				for laid := range 2 {
					do(api.View{Cells: h, Phase: api.PhaseMark, Grey: greyOf(h), Globals: []api.Word{global}, Laid: laid, Lanes: l})
				}
			})
		}
	})
}

// TestAllSmallViews: all views of one, two and three cells with a global and one or two lanes.
func TestAllSmallViews(t *testing.T) {
	holding, breaking := 0, 0
	look := func(v api.View) {
		if plainAll(t, v).holds {
			holding++
		} else {
			breaking++
		}
	}
	eachSmallView(1, fewCells(wordsOf("n r0"), wordsOf("n r0")), wordsOf("n r0"), 2, look)
	eachSmallView(2, fewCells(wordsOf("n r0 r1"), wordsOf("n r0 r1")), wordsOf("n r0 r1"), 1, look)
	eachSmallView(2, fewCells(wordsOf("n r0 r1"), wordsOf("n")), wordsOf("n r0 r1"), 2, look)
	eachSmallView(3, fewCells(wordsOf("n"), wordsOf("n r0 r1 r2"))[2:], wordsOf("n r0 r2"), 1, look)
	if holding < 100000 || breaking < 50000 {
		t.Errorf("%d hold, %d don't", holding, breaking)
	}
}

// drawnWord is a word that fits a heap of n, more often than not a reference.
func drawnWord(r *rand.Rand, n int) api.Word {
	if n > 0 && r.Intn(3) > 0 {
		return ref(r.Intn(n))
	}
	l := wordsOf("n f t none 0 1 -7 s0 s3 p1 p22")
	return l[r.Intn(len(l))]
}

func drawnWords(r *rand.Rand, many, n int) []api.Word {
	var out []api.Word
	for range many {
		out = append(out, drawnWord(r, n))
	}
	return out
}

// drawnCell is a cell of a heap of n; whitish of ten are white.
func drawnCell(r *rand.Rand, n, whitish int) api.Cell {
	c := api.Cell{Kind: api.Kind(1 + r.Intn(3)), Colour: api.Colour(1 + r.Intn(2)), A: drawnWord(r, n), B: drawnWord(r, n)}
	if r.Intn(10) < whitish {
		c.Colour = api.White
	}
	if r.Intn(6) == 0 {
		c.Kind, c.A = api.KindFree, api.Word(r.Uint64())
	}
	return c
}

// drawnView is a view that may be, of up to so many cells.
func drawnView(r *rand.Rand, most int) api.View {
	n, whitish := r.Intn(most+1), r.Intn(10)
	v := api.View{Phase: api.PhaseRoots + api.Phase(r.Intn(2)), Swept: r.Intn(n + 1)}
	for range n {
		v.Cells = append(v.Cells, drawnCell(r, n, whitish))
	}
	v.Grey = greyOf(v.Cells)
	r.Shuffle(len(v.Grey), func(i, j int) { v.Grey[i], v.Grey[j] = v.Grey[j], v.Grey[i] })
	v.Globals = drawnWords(r, r.Intn(4), n)
	v.Laid = r.Intn(len(v.Globals) + 1)
	for range r.Intn(4) {
		v.Lanes = append(v.Lanes, api.Lane{Roots: drawnWords(r, r.Intn(4), n), Scanned: r.Intn(2) == 0, Ended: r.Intn(3) == 0})
	}
	return v
}

// spoilt changes one thing of a view, so that it may perhaps not be.
func spoilt(r *rand.Rand, v *api.View) {
	n := len(v.Cells)
	bad := badWords()
	w := append(bad, ref(n), ref(n+1))[r.Intn(len(bad)+2)]
	switch r.Intn(9) {
	case 0:
		v.Phase = api.Phase(r.Intn(8))
	case 1:
		v.Swept = r.Intn(n+4) - 2
	case 2:
		v.Laid = r.Intn(len(v.Globals)+4) - 2
	case 3:
		v.Globals = append(v.Globals, w)
	case 4:
		v.Lanes = append(v.Lanes, api.Lane{Roots: []api.Word{wordOf("n"), w}})
	case 5:
		v.Grey = append(v.Grey, r.Intn(n+3)-1)
	case 6:
		v.Grey = v.Grey[:r.Intn(len(v.Grey)+1)]
	default:
		if n == 0 {
			return
		}
		spoiltCell(r, &v.Cells[r.Intn(n)], w)
	}
}

func spoiltCell(r *rand.Rand, c *api.Cell, w api.Word) {
	switch r.Intn(4) {
	case 0:
		c.Kind = api.Kind(r.Intn(6))
	case 1:
		c.Colour = api.Colour(r.Intn(5))
	case 2:
		c.A = w
	default:
		c.B = w
	}
}

func TestDrawnViews(t *testing.T) {
	r := rand.New(rand.NewSource(130))
	seen := map[string]int{}
	for i := range 60000 {
		most := 6
		if i%10 == 0 {
			most = 40
		}
		v := drawnView(r, most)
		if i%5 == 0 {
			v.Phase = api.Phase(r.Intn(4))
		}
		if i%4 == 0 {
			spoilt(r, &v)
		}
		switch o := plainAll(t, v); {
		case o.e != api.OK:
			seen["refused"]++
		case !o.holds:
			seen["breaks"]++
		case !slices.Equal(o.by, o.well):
			seen["holds, guarded and not well"]++
		case slices.Contains(o.by, true):
			seen["holds, well guarded"]++
		}
	}
	for _, s := range []string{"refused", "breaks", "holds, guarded and not well", "holds, well guarded"} {
		if seen[s] < 1500 {
			t.Errorf("%s: only %d", s, seen[s])
		}
	}
}

func TestDrawnShades(t *testing.T) {
	r := rand.New(rand.NewSource(131))
	for range 30000 {
		v := drawnView(r, 6)
		n := len(v.Cells)
		l := append(badWords(), drawnWords(r, 60, n)...)
		plainShades(t, api.Phase(r.Intn(5)), v.Cells, l[r.Intn(len(l))], l[r.Intn(len(l))])
	}
}

// viewOfBytes makes a view of any bytes: most may be, or may nearly.
func viewOfBytes(b []byte) api.View {
	next := func() int {
		if len(b) == 0 {
			return 0
		}
		x := int(b[0])
		b = b[1:]
		return x
	}
	word := func() api.Word {
		if x := next(); x < 200 {
			return ref(x % 8)
		} else {
			return api.Word(x - 200)
		}
	}
	v := api.View{Phase: api.Phase(next() % 5), Swept: next()%12 - 1}
	for range next() % 9 {
		head := next()
		v.Cells = append(v.Cells, api.Cell{Kind: api.Kind(head % 16 % 5), Colour: api.Colour(head / 16 % 4), A: word(), B: word()})
	}
	v.Swept = min(v.Swept, len(v.Cells)+1)
	v.Grey = greyOf(v.Cells)
	if x := next(); x > 200 {
		v.Grey = append(v.Grey, x-201)
	}
	for range next() % 5 {
		v.Globals = append(v.Globals, word())
	}
	v.Laid = next()%7 - 1
	for range next() % 5 {
		l := api.Lane{Scanned: next()%2 == 1, Ended: next()%2 == 1}
		for range next() % 5 {
			l.Roots = append(l.Roots, word())
		}
		v.Lanes = append(v.Lanes, l)
	}
	return v
}

func FuzzPlain(f *testing.F) {
	f.Add([]byte{})
	f.Add([]byte{2, 1, 3, 1, 201, 1, 17, 0, 2, 33, 201, 0, 0, 1, 1, 1, 2, 0, 0, 2, 0, 1, 1, 1, 2, 0, 1})
	f.Add([]byte{1, 0, 2, 1, 201, 201, 17, 0, 201, 0, 0, 1, 1, 1, 0, 0, 1, 0})
	f.Add([]byte{2, 1, 4, 2, 1, 2, 3, 3, 201, 34, 0, 0, 16, 9, 9, 0, 0, 1, 2, 0, 1, 2, 1, 0})
	f.Fuzz(func(t *testing.T, b []byte) {
		v := viewOfBytes(b)
		plainAll(t, v)
		for _, l := range v.Lanes {
			for i := range l.Roots {
				plainShades(t, v.Phase, v.Cells, l.Roots[0], l.Roots[i])
			}
		}
	})
}
