package par_test

import (
	"math/rand"
	"slices"
	"testing"

	"dapple/api"
)

// The chapter once more, in the plainest way: by one alone, till nothing comes to it.

// plainWord tells by its bits whether w is a word that fits a heap of so many cells.
func plainWord(w api.Word, cells int) bool {
	n := int64(w) >> 4
	switch api.Tag(w % 16) {
	case api.TagNil, api.TagFalse, api.TagTrue, api.TagNone:
		return n == 0
	case api.TagInt:
		return true
	case api.TagSymbol:
		return 0 <= n && n <= 2147483647
	case api.TagPrim:
		return 1 <= n && n <= 22
	case api.TagRef:
		return 0 <= n && n < int64(cells)
	}
	return false
}

// plainHeap tells whether a heap may be.
func plainHeap(h []api.Cell) bool {
	return !slices.ContainsFunc(h, func(c api.Cell) bool {
		words := c.Kind == 0 || plainWord(c.A, len(h)) && plainWord(c.B, len(h))
		return c.Kind > 3 || c.Colour > 2 || !words
	})
}

// plainRoots tells whether roots may be.
func plainRoots(h []api.Cell, roots []api.Word) bool {
	return !slices.ContainsFunc(roots, func(w api.Word) bool { return !plainWord(w, len(h)) })
}

// plainLive is the least set of cells that are not free which has what the roots name, and what its own cells name.
func plainLive(h []api.Cell, roots []api.Word) []bool {
	out := make([]bool, len(h))
	for grown := true; grown; {
		grown = false
		meet := func(w api.Word) {
			if w%16 == 8 && h[w>>4].Kind != 0 && !out[w>>4] {
				out[w>>4], grown = true, true
			}
		}
		for _, w := range roots {
			meet(w)
		}
		for i, is := range out {
			if is {
				meet(h[i].A)
				meet(h[i].B)
			}
		}
	}
	return out
}

// plainSwept is the heap behind a sweep, and what is freed.
func plainSwept(h []api.Cell, live []bool) ([]api.Cell, []int) {
	var heap []api.Cell
	var freed []int
	for i, c := range h {
		if !live[i] {
			if c.Kind != 0 {
				freed = append(freed, i)
			}
			c = api.Cell{}
		}
		c.Colour = 0
		heap = append(heap, c)
	}
	return heap, freed
}

// plainAll holds all calls by so many workers against the plain ones.
func plainAll(t *testing.T, h []api.Cell, workers int, roots []api.Word, live []bool) {
	t.Helper()
	if workers < 1 || workers > 16 {
		marksNot(t, h, workers, api.ErrArg, roots...)
		sweepsNot(t, h, live, workers, api.ErrArg)
		return
	}
	if !plainHeap(h) || !plainRoots(h, roots) {
		marksNot(t, h, workers, api.ErrParForm, roots...)
	} else {
		want := plainLive(h, roots)
		marksBy(t, h, workers, roots, want)
		heap, freed := plainSwept(h, want)
		collectsBy(t, h, workers, roots, count(want), heap, freed)
	}
	wrong := !plainHeap(h) || len(live) != len(h)
	for i := range live {
		wrong = wrong || live[i] && h[i].Kind == 0
	}
	if wrong {
		sweepsNot(t, h, live, workers, api.ErrParForm)
		return
	}
	heap, freed := plainSwept(h, live)
	sweepsBy(t, h, live, workers, heap, freed)
}

// eachList hands on all lists of n of some things; one list's memory is the next one's.
func eachList[T any](n int, some []T, do func([]T)) {
	list := make([]T, 0, n)
	var fill func()
	fill = func() {
		if len(list) == n {
			do(list)
			return
		}
		for _, one := range some {
			list = append(list, one)
			fill()
			list = list[:len(list)-1]
		}
	}
	fill()
}

// TestAllSmallHeaps: all heaps of up to three cells, pairs and free ones, references one too far among them, where they are few; how many roots and workers by turns.
func TestAllSmallHeaps(t *testing.T) {
	turn, heaps := 0, 0
	for n := range 4 {
		fit := wordsOf("n r0 r1 r2")[:n+1]
		if n < 3 {
			fit = wordsOf("n r0 r1 r2")[:n+2]
		}
		some := heapOf("free r0 r1")
		eachList(2, fit, func(l []api.Word) { some = append(some, api.Cell{Kind: api.KindPair, A: l[0], B: l[1]}) })
		eachList(n, some, func(h []api.Cell) {
			heaps++
			eachList(heaps%3, fit, func(roots []api.Word) {
				live := make([]bool, n)
				for i := range live {
					live[i] = (turn>>i)&1 == 1 && h[i].Kind != 0
				}
				plainAll(t, h, 1+turn%16, roots, live)
				turn++
			})
		})
	}
	if heaps != 1+10+17*17+17*17*17 {
		t.Errorf("%d heaps", heaps)
	}
}

// drawnWord is a word that fits a heap of so many cells, mostly a reference.
func drawnWord(r *rand.Rand, cells int) api.Word {
	if cells > 0 && r.Intn(4) > 0 {
		return ref(r.Intn(cells))
	}
	others := wordsOf("n f t none 0 1 2 -1 s0 s1 p1 p2")
	return others[r.Intn(len(others))]
}

// drawnHeap is one that may be, of so many cells.
func drawnHeap(r *rand.Rand, cells int) []api.Cell {
	h := make([]api.Cell, cells)
	for i := range h {
		h[i] = api.Cell{Kind: api.Kind(1 + r.Intn(3)), Colour: api.Colour(r.Intn(3)), A: drawnWord(r, cells), B: drawnWord(r, cells)}
		if r.Intn(6) == 0 {
			h[i].Kind = api.KindFree
		}
		if h[i].Kind == api.KindFree && r.Intn(2) == 0 {
			h[i].A = api.Word(r.Uint64())
		}
	}
	return h
}

func drawnRoots(r *rand.Rand, cells int) []api.Word {
	var out []api.Word
	for range r.Intn(4) {
		out = append(out, drawnWord(r, cells))
	}
	return out
}

// drawnLive says of cells that are not free that they are live, and now and then what may not be.
func drawnLive(r *rand.Rand, h []api.Cell) []bool {
	out := make([]bool, len(h))
	for i := range out {
		out[i] = r.Intn(2) == 0 && (h[i].Kind != 0 || r.Intn(40) == 0)
	}
	if r.Intn(10) == 0 {
		return out[:r.Intn(len(out)+1)]
	}
	return out
}

// spoilt lays something into a heap that may not be there, unless the cell is free.
func spoilt(r *rand.Rand, h []api.Cell) {
	if len(h) == 0 {
		return
	}
	c := &h[r.Intn(len(h))]
	wrong := []api.Word{0, ref(len(h)), ref(-1), api.Word(r.Uint64()), bits(api.TagNil, 1), bits(api.TagPrim, 23)}
	switch r.Intn(6) {
	case 0:
		c.Kind = api.Kind(4 + r.Intn(252))
	case 1:
		c.Colour = api.Colour(3 + r.Intn(253))
	case 2, 3:
		c.A = wrong[r.Intn(len(wrong))]
	default:
		c.B = wrong[r.Intn(len(wrong))]
	}
}

// TestDrawnHeaps: heaps, roots and live ones that may be, and some that may not, by drawn workers.
func TestDrawnHeaps(t *testing.T) {
	r := rand.New(rand.NewSource(231))
	wrong, fine := 0, 0
	for range 12000 {
		h := drawnHeap(r, r.Intn(12))
		roots, live := drawnRoots(r, len(h)), drawnLive(r, h)
		if r.Intn(5) == 0 {
			spoilt(r, h)
		}
		if len(roots) > 0 && r.Intn(8) == 0 {
			roots[r.Intn(len(roots))] = []api.Word{0, ref(len(h)), ref(-1), api.Word(r.Uint64())}[r.Intn(4)]
		}
		plainAll(t, h, r.Intn(18), roots, live)
		if plainHeap(h) && plainRoots(h, roots) {
			fine++
		} else {
			wrong++
		}
	}
	if wrong < 1500 || fine < 6000 {
		t.Errorf("%d wrong, %d fine", wrong, fine)
	}
}

// heapOfBytes makes a heap, workers and roots of any bytes: how many cells and workers, three bytes a cell, the rest are roots.
func heapOfBytes(b []byte) ([]api.Cell, int, []api.Word) {
	if len(b) < 2 {
		return nil, len(b), nil
	}
	n, workers := min(int(b[0])%9, (len(b)-2)/3), int(b[1])%18
	b = b[2:]
	word := func(x byte) api.Word {
		if x < 16 {
			return ref(int(x))
		}
		return api.Word(x - 16)
	}
	var h []api.Cell
	for range n {
		h = append(h, api.Cell{Kind: api.Kind(b[0] % 5), Colour: api.Colour(b[0] / 5 % 4), A: word(b[1]), B: word(b[2])})
		b = b[3:]
	}
	var roots []api.Word
	for _, x := range b[:min(len(b), 6)] {
		roots = append(roots, word(x))
	}
	return h, workers, roots
}

func FuzzPlain(f *testing.F) {
	f.Add([]byte{})
	f.Add([]byte{4, 1, 1, 2, 17, 1, 17, 17, 1, 0, 3, 0, 17, 17, 0})
	f.Add([]byte{2, 16, 0, 1, 1, 3, 0, 1, 1, 17})
	f.Add([]byte{3, 17, 4, 17, 17, 16, 17, 17, 1, 16, 2, 9})
	f.Fuzz(func(t *testing.T, b []byte) {
		h, workers, roots := heapOfBytes(b)
		plainAll(t, h, workers, roots, make([]bool, len(h)))
	})
}
