package mark_test

import (
	"math/rand"
	"runtime"
	"slices"
	"sync"
	"testing"

	"dapple/api"
	"dapple/cells"
	"dapple/graph"
	"dapple/mark"
	"dapple/words"
)

// whiteCells are a heap that graph takes, all of it white or free: each reference names a cell of it.
func whiteCells(r *rand.Rand, many int) []api.Cell {
	out := drawnCells(r, many)
	// How thick the web is hangs on this, so that now little is reached, now nearly all.
	thick := r.Intn(10)
	for i := range out {
		out[i].Colour = api.White
		if out[i].Kind != api.KindFree {
			out[i].A, out[i].B = rootOf(r, many, thick), rootOf(r, many, thick)
		}
	}
	return out
}

// rootOf is a reference to a cell of so many, in thick of ten, or a word that is none.
func rootOf(r *rand.Rand, many, thick int) api.Word {
	if r.Intn(10) < thick {
		return ref(r.Intn(many))
	}
	return wordsOf("n 0 1 -1 s0 s1 p1 p2 x2 x3 x4")[r.Intn(11)]
}

// rootsOf are some.
func rootsOf(r *rand.Rand, many int) []api.Word {
	var out []api.Word
	for range r.Intn(4) {
		out = append(out, rootOf(r, many, 7))
	}
	return out
}

// reached are those of the cells which some words reach, and which are not free, as a text of w and b (what else there is: a dot).
func reached(t *testing.T, l []api.Cell, roots []api.Word) string {
	t.Helper()
	is, e := graph.Reach(l, roots...)
	if e != api.OK {
		t.Fatalf("Reach of %x in %x: %d", roots, l, e)
	}
	want := []byte(coloursOf(bare(l)))
	for cell := range want {
		if is[cell] && want[cell] == 'w' {
			want[cell] = 'b'
		}
	}
	return string(want)
}

// eachDrawn hands on many heaps whose cells are all white or free, small ones and greater ones.
func eachDrawn(t *testing.T, seed int64, do func(r *rand.Rand, l []api.Cell)) {
	t.Helper()
	r := rand.New(rand.NewSource(seed))
	for i := range 4000 {
		many := 4 + r.Intn(8)
		if i%10 == 0 {
			many = 4 + r.Intn(100)
		}
		do(r, whiteCells(r, many))
	}
}

// listener has heard all that a marker told: what became grey, and what was scanned, in order.
type listener struct {
	desk
	met, scanned []int
}

func newListener(t *testing.T, l []api.Cell) *listener {
	h := heapWith(l)
	return &listener{desk: desk{t, h, mark.New(h)}}
}

func (x *listener) shade(l ...api.Word) { x.met = append(x.met, x.m.Shade(l...)...) }

func (x *listener) lay(l ...int) { x.met = append(x.met, x.m.Lay(l...)...) }

// scan tells whether there was something.
func (x *listener) scan() bool {
	cell, l, is := x.m.Scan()
	if is {
		x.scanned = append(x.scanned, cell)
		x.met = append(x.met, l...)
	}
	return is
}

// scanAll is Scan till it tells false.
func (x *listener) scanAll() {
	for x.scan() {
	}
}

// TestJustWhatIsReached: behind a Shade, and Scan till it tells false, black is what graph.Reach tells, all else is as it was.
func TestJustWhatIsReached(t *testing.T) {
	some, all, nothing, free := 0, 0, 0, 0
	eachDrawn(t, 152, func(r *rand.Rand, l []api.Cell) {
		roots := rootsOf(r, len(l))
		x := newListener(t, l)
		x.shade(roots...)
		x.scanAll()
		want := reached(t, l, roots)
		x.colours(want)
		x.stays(l)
		x.grey()
		is, _ := graph.Reach(l, roots...)
		for cell := range l {
			if is[cell] && l[cell].Kind == api.KindFree {
				free++
			}
		}
		switch {
		case !slices.Contains([]byte(want), 'b'):
			nothing++
		case !slices.Contains([]byte(want), 'w'):
			all++
		default:
			some++
		}
	})
	if some < 500 || all < 50 || nothing < 100 || free < 500 {
		t.Errorf("some %d, all %d, nothing %d, free ones %d", some, all, nothing, free)
	}
}

// TestByBreadth: one Shade and the Scans behind it meet the cells as graph.Order does.
func TestByBreadth(t *testing.T) {
	long := 0
	eachDrawn(t, 153, func(r *rand.Rand, l []api.Cell) {
		roots := rootsOf(r, len(l))
		x := newListener(t, l)
		x.shade(roots...)
		x.scanAll()
		order, _ := graph.Order(l, roots...)
		order = slices.DeleteFunc(order, func(cell int) bool { return l[cell].Kind == api.KindFree })
		if !slices.Equal(x.met, order) || !slices.Equal(x.scanned, order) {
			t.Fatalf("%x of %x: met %v, scanned %v, not %v", roots, l, x.met, x.scanned, order)
		}
		if len(order) > 5 {
			long++
		}
	})
	if long < 200 {
		t.Errorf("only %d are long", long)
	}
}

// TestShadedBetween: whatever is shaded between, by words or by numbers, changes only what it is reached from: black is what all of it reaches together.
func TestShadedBetween(t *testing.T) {
	more := 0
	eachDrawn(t, 154, func(r *rand.Rand, l []api.Cell) {
		first := rootsOf(r, len(l))
		roots := slices.Clone(first)
		x := newListener(t, l)
		x.shade(first...)
		for range 1 + r.Intn(6) {
			for range r.Intn(3) {
				x.scan()
			}
			if r.Intn(2) == 0 {
				w := rootsOf(r, len(l))
				x.shade(w...)
				roots = append(roots, w...)
			} else {
				cell := r.Intn(len(l))
				x.lay(cell, -1, len(l))
				roots = append(roots, ref(cell))
			}
		}
		x.scanAll()
		x.colours(reached(t, l, roots))
		x.stays(l)
		x.grey()
		without := []byte(reached(t, l, first))
		between := reached(t, l, roots[len(first):])
		for cell, c := range []byte(reached(t, l, roots)) {
			if c != without[cell] && between[cell] != 'b' {
				t.Fatalf("%x of %x: the cell %d is black", roots, l, cell)
			}
			if c != without[cell] {
				more++
			}
		}
	})
	if more < 3000 {
		t.Errorf("only %d cells are black by what was shaded between", more)
	}
}

// TestOnce: each cell is told to become grey once, and then, in that order, to be scanned once; while it stands between, it is grey.
func TestOnce(t *testing.T) {
	again := 0
	eachDrawn(t, 155, func(r *rand.Rand, l []api.Cell) {
		x := newListener(t, l)
		for range 40 {
			switch r.Intn(4) {
			case 0:
				x.shade(rootsOf(r, len(l))...)
			case 1:
				cell := r.Intn(len(l))
				if slices.Contains(x.met, cell) {
					again++
				}
				x.lay(cell, cell)
			default:
				x.scan()
			}
			if !slices.Equal(x.scanned, x.met[:len(x.scanned)]) {
				t.Fatalf("%x: met %v, scanned %v", l, x.met, x.scanned)
			}
			x.grey(x.met[len(x.scanned):]...)
			for cell, c := range x.h.Snapshot() {
				want := api.White
				if slices.Contains(x.met, cell) {
					want = api.Grey
				}
				if slices.Contains(x.scanned, cell) {
					want = api.Black
				}
				if c.Colour != want {
					t.Fatalf("%x: the cell %d is %d; met %v, scanned %v", l, cell, c.Colour, x.met, x.scanned)
				}
			}
		}
		x.scanAll()
		if !slices.Equal(x.scanned, x.met) {
			t.Fatalf("%x: met %v, scanned %v", l, x.met, x.scanned)
		}
		if row := slices.Sorted(slices.Values(x.met)); len(slices.Compact(row)) != len(x.met) {
			t.Fatalf("%x: met %v", l, x.met)
		}
	})
	if again < 5000 {
		t.Errorf("only %d were laid again", again)
	}
}

// blackNamesWhite tells whether some black cell names a white one that is not free.
func blackNamesWhite(h *cells.Heap) bool {
	l := h.Snapshot()
	for _, c := range l {
		if c.Colour != api.Black {
			continue
		}
		for _, w := range []api.Word{c.A, c.B} {
			if to, ok := words.Cell(w); ok && to < len(l) && l[to].Kind != api.KindFree && l[to].Colour == api.White {
				return true
			}
		}
	}
	return false
}

// TestBlackNamesNothingWhite: at each moment, though others write into cells that are white or grey.
func TestBlackNamesNothingWhite(t *testing.T) {
	writes, blacks := map[api.Colour]int{}, 0
	eachDrawn(t, 156, func(r *rand.Rand, l []api.Cell) {
		x := newListener(t, l)
		for range 40 {
			switch r.Intn(5) {
			case 0:
				x.shade(rootsOf(r, len(l))...)
			case 1:
				x.lay(r.Intn(len(l)))
			case 2:
				cell := r.Intn(len(l))
				if kind, colour, _ := x.h.Head(cell); kind != api.KindFree && colour != api.Black {
					x.h.Swap(cell, r.Intn(2), rootOf(r, len(l), 9))
					writes[colour]++
				}
			default:
				x.scan()
			}
			if blackNamesWhite(x.h) {
				t.Fatalf("%x: a black cell names a white one: %x", l, x.h.Snapshot())
			}
		}
		blacks += len(x.scanned)
	})
	if writes[api.White] < 1000 || writes[api.Grey] < 1000 || blacks < 10000 {
		t.Errorf("written %v times, %d scanned", writes, blacks)
	}
}

// TestSeenFromBeside: so it is for who looks at the heap while a Scan is at work: a cell is black only when what it names has been shaded.
func TestSeenFromBeside(t *testing.T) {
	h := heapWith(chain(api.MaxCells, true))
	m := mark.New(h)
	for range 20 {
		m.Shade(ref(0))
		var beside sync.WaitGroup
		beside.Go(func() {
			// Cell by cell, as each becomes black: colours only go up meanwhile, so what is white then was white before.
			for cell := range api.MaxCells - 1 {
				for !isOfColour(h, cell, api.Black) {
					runtime.Gosched()
				}
				if isOfColour(h, cell+1, api.White) {
					t.Errorf("%d is black, %d white", cell, cell+1)
					return
				}
			}
		})
		for range api.MaxCells {
			m.Scan()
		}
		beside.Wait()
		for cell := range api.MaxCells {
			h.Turn(cell, api.Black, api.White)
		}
	}
}

// isOfColour tells whether a cell has that colour.
func isOfColour(h *cells.Heap, cell int, c api.Colour) bool {
	_, is, _ := h.Head(cell)
	return is == c
}

// TestWhoWritesIntoABlackOne can lose a cell, so that what is told of moments hangs on that: it takes the barrier.
func TestWhoWritesIntoABlackOne(t *testing.T) {
	d := newDesk(t, "n n, n n, n n, n n")
	d.lays([]int{0}, 0)
	d.scans(0)
	d.writes(0, 0, "r1")
	if !blackNamesWhite(d.h) {
		t.Error("nothing is seen of it")
	}
	d.scansNone()
	d.shades("r1", 1)
	if blackNamesWhite(d.h) {
		t.Error("what was shaded is white")
	}
}

// TestKindsAndWordsStay: behind each call, of heaps of all colours, whose words are any.
func TestKindsAndWordsStay(t *testing.T) {
	r := rand.New(rand.NewSource(157))
	for range 2000 {
		many := 4 + r.Intn(12)
		l := drawnCells(r, many)
		x := newListener(t, l)
		for _, c := range drawnRow(r, many, 40) {
			if c.what <= scanning {
				made(x.h, x.m, c)
				x.stays(l)
			}
		}
	}
}

// TestColoursOnlyGoUp: no call makes a cell whiter, and only Scan makes one black: that which it tells.
func TestColoursOnlyGoUp(t *testing.T) {
	r := rand.New(rand.NewSource(158))
	for range 2000 {
		many := 4 + r.Intn(12)
		x := newListener(t, drawnCells(r, many))
		for range 40 {
			was := x.h.Snapshot()
			c := drawnCall(r, many)
			if c.what > scanning {
				continue
			}
			row, told := x.m.Grey(), made(x.h, x.m, c)
			for cell, is := range x.h.Snapshot() {
				up := is.Colour - was[cell].Colour
				may := up == 0 || up == 1 && is.Colour == api.Grey
				if c.what == scanning && len(row) > 0 && cell == row[0] {
					may = is.Colour == api.Black
				}
				if !may {
					t.Fatalf("%v: %s: the cell %d was %d, is %d", c, told, cell, was[cell].Colour, is.Colour)
				}
			}
		}
	}
}

// TestAnyOrderOfWords: black is the same, however the words are shuffled and cut into calls.
func TestAnyOrderOfWords(t *testing.T) {
	eachDrawn(t, 159, func(r *rand.Rand, l []api.Cell) {
		roots := rootsOf(r, len(l))
		want := reached(t, l, roots)
		x := newListener(t, l)
		for _, i := range r.Perm(len(roots)) {
			x.shade(roots[i])
			if r.Intn(2) == 0 {
				x.scan()
			}
		}
		x.scanAll()
		if s := coloursOf(x.h.Snapshot()); s != want {
			t.Fatalf("%x of %x: %s, not %s", roots, l, s, want)
		}
	})
}
