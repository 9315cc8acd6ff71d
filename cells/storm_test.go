package cells_test

import (
	"math"
	"math/rand"
	"runtime"
	"slices"
	"testing"

	"dapple/api"
	"dapple/cells"
)

func adds(cell, field int, n int64) api.Touch {
	return api.Touch{Kind: api.TouchAdd, Cell: cell, Field: field, N: integer(n)}
}

func exchanges(cell, field int, n int64) api.Touch {
	return api.Touch{Kind: api.TouchCas, Cell: cell, Field: field, N: integer(n)}
}

func shades(cell int) api.Touch { return api.Touch{Kind: api.TouchShade, Cell: cell} }

// times is touches so often, one behind the other.
func times(n int, l ...api.Touch) []api.Touch { return slices.Repeat(l, n) }

// laid is a heap with these cells.
func laid(t *testing.T, l []api.Cell) *cells.Heap {
	t.Helper()
	h := heapOf(t, len(l))
	for i, x := range l {
		if x.Kind == api.KindFree {
			continue
		}
		if e := h.Make(i, x.Kind, x.Colour, x.A, x.B); e != api.OK {
			t.Fatal("cell", i, e)
		}
	}
	return h
}

// after is what touches leave of cells, and how many they make grey: reckoned from them alone.
func after(l []api.Cell, touches []api.Touch) ([]api.Cell, int) {
	out, grey := slices.Clone(l), 0
	for _, x := range touches {
		at := &out[x.Cell]
		switch {
		case x.Kind == api.TouchShade && at.Colour == api.White:
			at.Colour = api.Grey
			grey++
		case x.Kind == api.TouchShade:
		case x.Field == 0:
			at.A += x.N - integer(0)
		default:
			at.B += x.N - integer(0)
		}
	}
	return out, grey
}

// somewhere is a heap's cells of which some are free, with integers in both fields.
func somewhere(r *rand.Rand, n int) []api.Cell {
	out := make([]api.Cell, n)
	for i := range out {
		if i > 0 && r.Intn(5) == 0 {
			continue
		}
		out[i] = api.Cell{Kind: api.Kind(1 + r.Intn(3)), Colour: api.Colour(r.Intn(3)), A: integer(r.Int63n(100) - 50), B: integer(r.Int63n(100) - 50)}
	}
	return out
}

// some are touches of all kinds, of cells that are not free.
func some(r *rand.Rand, l []api.Cell, n int) []api.Touch {
	var out []api.Touch
	for len(out) < n {
		x := api.Touch{Kind: api.TouchAdd + uint8(r.Intn(3)), Cell: r.Intn(len(l)), Field: r.Intn(2), N: integer(r.Int63n(200) - 100)}
		if l[x.Cell].Kind != api.KindFree {
			out = append(out, x)
		}
	}
	return out
}

// TestExampleOfStorms is example 4 of the chapter.
func TestExampleOfStorms(t *testing.T) {
	for workers := 1; workers <= 16; workers++ {
		h := heapOf(t, 4)
		h.Make(2, api.KindBox, api.White, integer(0), none)
		if n, e := h.Storm(workers, adds(2, 0, 4), exchanges(2, 0, -1), shades(2), shades(2), adds(2, 0, 4)); n != 1 || e != api.OK {
			t.Error(workers, n, e)
		}
		want := small{2: {Kind: api.KindBox, Colour: api.Grey, A: integer(7), B: none}}
		if !stands(h, want) {
			t.Error(workers, h.Snapshot())
		}
		for _, x := range []api.Touch{adds(2, 1, 4), adds(2, 0, 576460752303423487)} {
			if n, e := h.Storm(1, x); n != 0 || e != api.ErrCellsForm || !stands(h, want) {
				t.Error(x, n, e)
			}
		}
		for _, w := range []int{0, 17} {
			if n, e := h.Storm(w); n != 0 || e != api.ErrArg {
				t.Error(w, "workers", n, e)
			}
		}
		if n, e := h.Storm(1); n != 0 || e != api.OK || !stands(h, want) {
			t.Error("no touches", n, e)
		}
	}
}

func TestStormRefuses(t *testing.T) {
	before := []api.Cell{
		{Kind: api.KindBox, A: integer(0), B: none},
		{Kind: api.KindPair, Colour: api.Black, A: integer(greatest - 10), B: integer(least + 10)},
		{},
		{Kind: api.KindClosure, A: 0, B: integer(5)},
	}
	noKind := api.Touch{Kind: 0, Cell: 0, N: integer(1)}
	fine := []api.Touch{adds(0, 0, 1), exchanges(1, 0, 1), shades(0), shades(3)}
	// with is touches that may be made, and another one among them.
	with := func(x api.Touch) []api.Touch { return slices.Insert(slices.Clone(fine), 2, x) }
	for _, c := range []struct {
		name    string
		workers int
		touches []api.Touch
		want    api.Errno
	}{
		{"no workers", 0, fine, api.ErrArg},
		{"too many workers", 17, fine, api.ErrArg},
		{"less than no workers", -1, fine, api.ErrArg},
		{"the least number of workers", math.MinInt, fine, api.ErrArg},
		{"workers beyond all", math.MaxInt, fine, api.ErrArg},
		{"65537 touches", 4, times(65537, shades(0)), api.ErrMuch},
		{"kind 0", 1, with(noKind), api.ErrCellsForm},
		{"kind 4", 2, with(api.Touch{Kind: 4, N: integer(1)}), api.ErrCellsForm},
		{"kind 255", 2, with(api.Touch{Kind: 255, N: integer(1)}), api.ErrCellsForm},
		{"adds to cell -1", 2, with(adds(-1, 0, 1)), api.ErrCellsForm},
		{"exchanges in cell 4", 2, with(exchanges(4, 0, 1)), api.ErrCellsForm},
		{"shades cell -1", 2, with(shades(-1)), api.ErrCellsForm},
		{"shades cell 4", 2, with(shades(4)), api.ErrCellsForm},
		{"shades a cell far off", 2, with(shades(math.MaxInt)), api.ErrCellsForm},
		{"adds to a free cell", 2, with(adds(2, 0, 1)), api.ErrCellsForm},
		{"exchanges in a free cell", 2, with(exchanges(2, 0, 1)), api.ErrCellsForm},
		{"shades a free cell", 2, with(shades(2)), api.ErrCellsForm},
		{"adds to field -1", 2, with(adds(0, -1, 1)), api.ErrCellsForm},
		{"adds to field 2", 2, with(adds(0, 2, 1)), api.ErrCellsForm},
		{"exchanges in field -1", 2, with(exchanges(0, -1, 1)), api.ErrCellsForm},
		{"exchanges in field 2", 2, with(exchanges(0, 2, 1)), api.ErrCellsForm},
		{"adds nil", 2, with(api.Touch{Kind: api.TouchAdd, N: none}), api.ErrCellsForm},
		{"adds what is no word", 2, with(api.Touch{Kind: api.TouchAdd, N: 0}), api.ErrCellsForm},
		{"exchanges by a reference", 2, with(api.Touch{Kind: api.TouchCas, N: 8}), api.ErrCellsForm},
		{"exchanges by what is no word", 2, with(api.Touch{Kind: api.TouchCas, N: 1<<64 - 1}), api.ErrCellsForm},
		{"adds to nil", 2, with(adds(0, 1, 1)), api.ErrCellsForm},
		{"adds 0 to nil", 2, with(adds(0, 1, 0)), api.ErrCellsForm},
		{"takes away from nil", 2, with(adds(0, 1, -1)), api.ErrCellsForm},
		{"exchanges in what is no word", 2, with(exchanges(3, 0, 0)), api.ErrCellsForm},
		{"above the greatest", 2, with(adds(1, 0, 10)), api.ErrCellsForm},
		{"above the greatest by Cas", 2, with(exchanges(1, 0, 10)), api.ErrCellsForm},
		{"below the least", 2, with(adds(1, 1, -11)), api.ErrCellsForm},
		{"below the least by Cas", 2, with(exchanges(1, 1, -11)), api.ErrCellsForm},
		{"above the greatest in some order alone", 2, []api.Touch{adds(1, 0, -5), adds(1, 0, 6), exchanges(1, 0, 5), adds(1, 0, -6)}, api.ErrCellsForm},
		{"below the least in some order alone", 2, []api.Touch{adds(1, 1, 5), adds(1, 1, -6), exchanges(1, 1, -5), adds(1, 1, 6)}, api.ErrCellsForm},
		{"above the greatest ahead of one less", 2, []api.Touch{adds(1, 0, -1), exchanges(1, 0, 11)}, api.ErrCellsForm},
		{"below the least ahead of one more", 2, []api.Touch{exchanges(1, 1, 1), adds(1, 1, -11)}, api.ErrCellsForm},
		{"so far above that 64 bits go round", 2, times(64, adds(0, 0, 1<<58)), api.ErrCellsForm},
		{"so far below that 64 bits go round", 2, times(32, adds(0, 0, least)), api.ErrCellsForm},
		{"as far above as can be", 2, times(65536, exchanges(0, 0, greatest)), api.ErrCellsForm},
		{"workers ahead of the touches' number", 0, times(65537, noKind), api.ErrArg},
		{"workers ahead of a touch's form", 17, with(noKind), api.ErrArg},
		{"the touches' number ahead of their form", 1, times(65537, noKind), api.ErrMuch},
	} {
		h := laid(t, before)
		if n, e := h.Storm(c.workers, c.touches...); n != 0 || e != c.want {
			t.Error(c.name, n, e)
		}
		if !slices.Equal(h.Snapshot(), before) {
			t.Error(c.name, "is refused, but something was done")
		}
	}
}

func TestStormTakes(t *testing.T) {
	before := []api.Cell{
		{Kind: api.KindBox, A: integer(0), B: none},
		{Kind: api.KindPair, Colour: api.Black, A: integer(greatest - 10), B: integer(least + 10)},
		{},
		{Kind: api.KindClosure, A: 0, B: integer(5)},
		{Kind: api.KindPair, Colour: api.Grey, A: integer(least), B: integer(greatest)},
	}
	for _, c := range []struct {
		name    string
		touches []api.Touch
	}{
		{"nothing", nil},
		{"just the greatest", []api.Touch{adds(1, 0, 3), exchanges(1, 0, 7)}},
		{"just the least", []api.Touch{exchanges(1, 1, -4), adds(1, 1, -6)}},
		{"the greatest, and all the way back", []api.Touch{adds(1, 0, 10), adds(1, 0, least), adds(1, 0, -1<<58)}},
		{"nothing at the edges", []api.Touch{adds(4, 0, 0), exchanges(4, 1, 0)}},
		{"from the least as far as can be", []api.Touch{adds(4, 0, greatest), exchanges(4, 0, greatest), adds(4, 0, 1)}},
		{"from the greatest as far as can be", []api.Touch{exchanges(4, 1, least), adds(4, 1, -greatest)}},
		{"fields that nobody adds to hold no integers", []api.Touch{adds(0, 0, 1), exchanges(3, 1, 1), shades(0), shades(3)}},
		{"black and grey ones stay", []api.Touch{shades(1), shades(4), shades(1)}},
		{"of a shade field and number mean nothing", []api.Touch{{Kind: api.TouchShade, Cell: 0, Field: -1, N: 0}, {Kind: api.TouchShade, Cell: 3, Field: 2, N: none}, {Kind: api.TouchShade, Cell: 0, Field: 1, N: integer(greatest)}}},
		{"65536 touches", times(16384, adds(0, 0, 1), exchanges(3, 1, -1), shades(0), adds(0, 0, -1))},
	} {
		want, grey := after(before, c.touches)
		for _, workers := range []int{1, 2, 16} {
			h := laid(t, before)
			if n, e := h.Storm(workers, c.touches...); n != grey || e != api.OK {
				t.Error(c.name, workers, n, e)
			}
			if got := h.Snapshot(); !slices.Equal(got, want) {
				t.Error(c.name, workers, "left", got, "not", want)
			}
		}
	}
}

// TestStormHangsOnItsTouchesAlone: not on workers, not on their order, not on how often it was asked (T7).
func TestStormHangsOnItsTouchesAlone(t *testing.T) {
	for seed := range int64(60) {
		r := rand.New(rand.NewSource(seed))
		before := somewhere(r, 4+r.Intn(20))
		touches := some(r, before, r.Intn(300))
		want, grey := after(before, touches)
		for _, workers := range []int{1, 2, 3, 7, 16} {
			for range 3 {
				r.Shuffle(len(touches), func(i, j int) { touches[i], touches[j] = touches[j], touches[i] })
				h := laid(t, before)
				if n, e := h.Storm(workers, touches...); n != grey || e != api.OK || !slices.Equal(h.Snapshot(), want) {
					t.Fatal(seed, workers, n, e, "not", grey)
				}
			}
		}
	}
}

// TestStormsOnOneField: all workers with one cell at one time.
func TestStormsOnOneField(t *testing.T) {
	before := []api.Cell{{}, {Kind: api.KindPair, A: integer(0), B: integer(9)}, {}, {}}
	touches := times(10000, adds(1, 0, 3), exchanges(1, 0, -1), shades(1), exchanges(1, 1, 2), adds(1, 1, -2))
	want, grey := after(before, touches)
	for _, workers := range []int{1, 2, 4, 8, 16} {
		for range 3 {
			h := laid(t, before)
			if n, e := h.Storm(workers, touches...); n != grey || e != api.OK || !slices.Equal(h.Snapshot(), want) {
				t.Fatal(workers, n, e, h.Snapshot())
			}
		}
	}
}

// TestStormsOverAllCells: each white cell of the greatest heap is shaded by one, however many try.
func TestStormsOverAllCells(t *testing.T) {
	before := make([]api.Cell, 4096)
	for i := range before {
		before[i] = api.Cell{Kind: api.KindPair, Colour: api.Colour(i % 3), A: integer(int64(i)), B: none}
	}
	var touches []api.Touch
	for i := range 4096 * 16 {
		touches = append(touches, shades(i*7%4096))
	}
	for _, workers := range []int{1, 4, 16} {
		h := laid(t, before)
		want, grey := after(before, touches)
		if n, e := h.Storm(workers, touches...); n != grey || n != 1366 || e != api.OK || !slices.Equal(h.Snapshot(), want) {
			t.Error(workers, n, e)
		}
	}
}

// TestStormsOneBehindTheOther: a storm goes on from what the one ahead of it has left.
func TestStormsOneBehindTheOther(t *testing.T) {
	h := heapOf(t, 4)
	h.Make(0, api.KindBox, api.White, integer(greatest-3), none)
	for i, want := range []api.Errno{api.OK, api.OK, api.OK, api.ErrCellsForm, api.ErrCellsForm} {
		n, e := h.Storm(2, adds(0, 0, 1), shades(0))
		if e != want || (n == 1) != (i == 0) {
			t.Error("storm", i, n, e)
		}
	}
	if w, _ := h.Load(0, 0); w != integer(greatest) {
		t.Error("left", w)
	}
}

// TestStormKeepsToItsMemory: what is handed in stays as it is, and what lies behind its length is not read.
func TestStormKeepsToItsMemory(t *testing.T) {
	h := heapOf(t, 4)
	h.Make(1, api.KindBox, api.White, integer(0), integer(0))
	room := append(times(5, adds(1, 0, 2), exchanges(1, 1, 1), shades(1)), times(4, api.Touch{Kind: 99, Cell: 99, Field: 99})...)
	before := slices.Clone(room)
	if n, e := h.Storm(4, room[:15]...); n != 1 || e != api.OK || !slices.Equal(room, before) {
		t.Error("what was handed in is changed, or not taken", n, e)
	}
	clear(room)
	if x := h.Snapshot()[1]; x != (api.Cell{Kind: api.KindBox, Colour: api.Grey, A: integer(10), B: integer(5)}) {
		t.Error("left", x)
	}
}

func TestStormsBesideOneAnother(t *testing.T) {
	beside(goroutines, func(i int) {
		r := rand.New(rand.NewSource(int64(i)))
		for range 20 {
			before := somewhere(r, 8)
			touches := some(r, before, 100)
			want, grey := after(before, touches)
			h := laid(t, before)
			if n, e := h.Storm(3, touches...); n != grey || e != api.OK || !slices.Equal(h.Snapshot(), want) {
				t.Error("a storm beside others", n, e)
			}
		}
	})
}

// TestStormLeavesNobody: its goroutines have ended (each may need a moment to be gone).
func TestStormLeavesNobody(t *testing.T) {
	h := heapOf(t, 4)
	h.Make(1, api.KindBox, api.White, integer(0), integer(0))
	before := runtime.NumGoroutine()
	for range 50 {
		h.Storm(16, adds(1, 0, 1), exchanges(1, 1, 1), shades(1))
	}
	for range 1000000 {
		if runtime.NumGoroutine() <= before {
			return
		}
		runtime.Gosched()
	}
	t.Error("goroutines are left:", runtime.NumGoroutine()-before)
}
