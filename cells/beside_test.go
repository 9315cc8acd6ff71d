package cells_test

import (
	"math/rand"
	"runtime"
	"slices"
	"sync/atomic"
	"testing"

	"dapple/api"
)

const (
	goroutines = 8
	turns      = 2000
)

// TestEachCallAtOneMoment holds the calls of few goroutines on one cell, of all sorts, against a plain cell (R7).
func TestEachCallAtOneMoment(t *testing.T) {
	var seed int64
	for _, first := range []api.Cell{{}, {Kind: api.KindPair, A: integer(0), B: integer(1)}} {
		eachAtOneMoment(t, small{first}, func(b *book[small]) func(i, j int) {
			h := heapOf(t, 4)
			h.Make(0, first.Kind, first.Colour, first.A, first.B)
			seed++
			rows := make([]*rand.Rand, 4)
			for i := range rows {
				rows[i] = rand.New(rand.NewSource(seed*4 + int64(i)))
			}
			return func(i, j int) {
				c := closeCall(rows[i])
				b.note(i, func() func(small) (small, bool) {
					got := ask(h, c)
					return func(p small) (small, bool) {
						next, want := p.ask(c)
						return next, got == want
					}
				})
			}
		})
	}
}

// closeCall is a call on cell 0 that others get in the way of: few words, and cells are seldom dropped.
func closeCall(r *rand.Rand) call {
	c := call{what: what(r.Intn(int(whats))), field: r.Intn(2), kind: api.Kind(1 + r.Intn(3)), c: api.Colour(r.Intn(3)), d: api.Colour(r.Intn(3)), w: integer(int64(r.Intn(3))), v: integer(int64(r.Intn(3)))}
	if c.what == drop && r.Intn(2) == 0 {
		c.what = shade
	}
	return c
}

// TestSnapshotsAtOneMoment: of the cell that is changed, a snapshot is one of its states, with all that stand in it.
func TestSnapshotsAtOneMoment(t *testing.T) {
	var seed int64
	eachAtOneMoment(t, small{}, func(b *book[small]) func(i, j int) {
		h := heapOf(t, 4)
		seed++
		return func(i, j int) {
			b.note(i, func() func(small) (small, bool) {
				if i == 0 {
					got := h.Snapshot()[2]
					return func(p small) (small, bool) { return p, got == p[2] }
				}
				r := rand.New(rand.NewSource(seed*16 + int64(i*3+j)))
				c := call{what: []what{fill, drop, swap, shade}[r.Intn(4)], cell: 2, field: r.Intn(2), kind: api.Kind(1 + r.Intn(3)), c: api.Colour(r.Intn(3)), w: integer(int64(i)), v: integer(int64(j))}
				got := ask(h, c)
				return func(p small) (small, bool) {
					next, want := p.ask(c)
					return next, got == want
				}
			})
		}
	})
}

// TestOneIsToldTrue: of all who Shade, Make, Drop, Turn, Cas at one time, one does it.
func TestOneIsToldTrue(t *testing.T) {
	const cellsOfAll, many = 4000, 4
	h := heapOf(t, cellsOfAll)
	steps := []func(i, cell int) bool{
		func(i, cell int) bool {
			return h.Make(cell, api.KindPair, api.White, integer(int64(i)), integer(int64(i))) == api.OK
		},
		func(_, cell int) bool { return h.Shade(cell) },
		func(_, cell int) bool { return h.Turn(cell, api.Grey, api.Black) },
		func(_, cell int) bool { h.Swap(cell, 1, none); return false },
		func(i, cell int) bool {
			_, did, _ := h.Cas(cell, 1, none, integer(int64(i)))
			return did
		},
		func(_, cell int) bool { return h.Drop(cell) == api.OK },
	}
	wants := []int64{1, 1, 1, 0, 1, 1}
	for s, step := range steps {
		did := make([]atomic.Int64, cellsOfAll)
		var here atomic.Int64
		beside(many, func(i int) {
			for cell := range cellsOfAll {
				meet(&here, int64(cell+1)*many)
				if step(i, cell) {
					did[cell].Add(1)
				}
			}
		})
		for cell := range did {
			if did[cell].Load() != wants[s] {
				t.Fatal("step", s, "cell", cell, "was done so often:", did[cell].Load())
			}
		}
	}
}

// TestWhoMakesIsWhoIsThere: what stands in a cell is all of the one who was told OK.
func TestWhoMakesIsWhoIsThere(t *testing.T) {
	const cellsOfAll, many = 4000, 4
	h := heapOf(t, cellsOfAll)
	var here atomic.Int64
	who := make([]atomic.Int64, cellsOfAll)
	beside(many, func(i int) {
		for cell := range cellsOfAll {
			meet(&here, int64(cell+1)*many)
			if h.Make(cell, api.Kind(1+i%3), api.Colour(i%3), integer(int64(i)), integer(int64(-i))) == api.OK {
				who[cell].Store(int64(i))
			}
		}
	})
	for cell, x := range h.Snapshot() {
		i := who[cell].Load()
		if want := (api.Cell{Kind: api.Kind(1 + i%3), Colour: api.Colour(i % 3), A: integer(i), B: integer(-i)}); x != want {
			t.Fatal("cell", cell, "is", x, "not", want)
		}
	}
}

// TestSumsOfMany: what is added is added, each sum is told by one; and the other field, and the colour, do not get in its way.
func TestSumsOfMany(t *testing.T) {
	h, told := heapOf(t, 4), make([][]api.Word, goroutines)
	h.Make(2, api.KindBox, api.White, integer(0), integer(100))
	beside(goroutines, func(i int) {
		for range turns {
			w, e := h.Add(2, 0, integer(1))
			if e != api.OK {
				t.Error("Add", e)
			}
			told[i] = append(told[i], w)
			h.Add(2, 1, integer(int64(1-2*(i%2))))
			h.Shade(2)
			h.Turn(2, api.Grey, api.White)
		}
	})
	all := slices.Concat(told...)
	slices.Sort(all)
	for i, w := range all {
		if w != integer(int64(i+1)) {
			t.Fatal("a sum was told twice, or not:", i+1)
		}
	}
	if x := h.Snapshot()[2]; x != (api.Cell{Kind: api.KindBox, A: integer(goroutines * turns), B: integer(100)}) {
		t.Error("left", x)
	}
}

// TestSwapsOfMany: what is swapped out was swapped in once, or stood there first.
func TestSwapsOfMany(t *testing.T) {
	for field := range 2 {
		h, out := heapOf(t, 4), make([][]api.Word, goroutines)
		h.Make(1, api.KindPair, api.Black, integer(-1), integer(-1))
		beside(goroutines, func(i int) {
			for j := range turns {
				w, e := h.Swap(1, field, integer(int64(i*turns+j)))
				if e != api.OK {
					t.Error("Swap", e)
				}
				out[i] = append(out[i], w)
				if j%5 == 0 {
					h.Swap(1, 1-field, integer(int64(j)))
				}
			}
		})
		last, _ := h.Load(1, field)
		all := append(slices.Concat(out...), last)
		slices.SortFunc(all, func(a, b api.Word) int { return int(int64(a)>>4 - int64(b)>>4) })
		for i, w := range all {
			if w != integer(int64(i-1)) {
				t.Fatal("a word came out twice, or not:", i-1)
			}
		}
	}
}

// TestCasOfMany: who counts up by Cas loses nothing, while others change all else of the cell.
func TestCasOfMany(t *testing.T) {
	h := heapOf(t, 4)
	h.Make(3, api.KindClosure, api.White, integer(0), integer(0))
	var did [goroutines]int64
	beside(goroutines, func(i int) {
		for range turns {
			was, _ := h.Load(3, 1)
			told, done, e := h.Cas(3, 1, was, was+16)
			if e != api.OK || done != (told == was) {
				t.Error("Cas from", was, "told", told, done, e)
			}
			if done {
				did[i]++
			}
			h.Add(3, 0, integer(1))
			h.Shade(3)
			h.Turn(3, api.Grey, api.White)
		}
	})
	sum := int64(0)
	for _, n := range did {
		sum += n
	}
	if w, _ := h.Load(3, 1); w != integer(sum) {
		t.Error("exchanged", sum, "there", w>>4)
	}
	if w, _ := h.Load(3, 0); w != integer(goroutines*turns) {
		t.Error("added", goroutines*turns, "there", w>>4)
	}
}

// TestNothingIsSeenByHalves: kind, colour and words that were made together are seen together.
func TestNothingIsSeenByHalves(t *testing.T) {
	h := heapOf(t, 4)
	beside(goroutines, func(i int) {
		for j := range turns {
			n := int64(i*turns + j)
			k, c := api.Kind(1+n%3), api.Colour(n%3)
			h.Make(1, k, c, integer(n), integer(n))
			x := h.Snapshot()[1]
			seen := int64(x.A) >> 4
			if x != (api.Cell{}) && x != (api.Cell{Kind: api.Kind(1 + seen%3), Colour: api.Colour(seen % 3), A: integer(seen), B: integer(seen)}) {
				t.Error("seen by halves", x)
			}
			if k, c, _ := h.Head(1); k == api.KindFree && c != api.White || k != api.KindFree && api.Colour(k-1) != c {
				t.Error("a head by halves", k, c)
			}
			if j%2 == 0 {
				h.Drop(1)
			}
		}
	})
}

// TestCellsBesideOneAnother: each goroutine has a cell of its own, and is answered as if it were alone.
func TestCellsBesideOneAnother(t *testing.T) {
	h := heapOf(t, 4)
	beside(4, func(i int) {
		r, plain := rand.New(rand.NewSource(int64(i))), small{}
		for range turns {
			c := someCall(r)
			c.cell = i
			next, want := plain.ask(c)
			if got := ask(h, c); got != want {
				t.Error(c, "answered", got, "not", want)
				return
			}
			plain = next
			if got := h.Snapshot(); len(got) != 4 || got[i] != plain[i] {
				t.Error("a snapshot of", plain[i], "is", got)
				return
			}
		}
	})
}

// TestHeapsBesideOneAnother: each goroutine has a heap of its own.
func TestHeapsBesideOneAnother(t *testing.T) {
	beside(goroutines, func(i int) {
		h, plain := heapOf(t, 4), small{}
		r := rand.New(rand.NewSource(int64(i)))
		for range turns {
			c := someCall(r)
			next, want := plain.ask(c)
			if got := ask(h, c); got != want || !stands(h, next) {
				t.Error(c, "answered", got, "not", want)
				return
			}
			plain = next
		}
	})
}

// TestWhatWasLaidIsSeen: what was written ahead of a call that changes a cell is seen by who hears of it.
func TestWhatWasLaidIsSeen(t *testing.T) {
	for range 200 {
		h := heapOf(t, 4)
		var made [5]int
		steps := []call{{what: fill, kind: api.KindBox, w: integer(0), v: integer(0)}, {what: swap, w: integer(1)}, {what: add, w: integer(1)}, {what: shade}, {what: cas, field: 1, v: integer(0), w: integer(3)}}
		heard := []func() bool{
			func() bool { k, _, _ := h.Head(0); return k == api.KindBox },
			func() bool { w, _ := h.Load(0, 0); return w >= integer(1) },
			func() bool { w, _ := h.Load(0, 0); return w == integer(2) },
			func() bool { _, c, _ := h.Head(0); return c == api.Grey },
			func() bool { w, _ := h.Load(0, 1); return w == integer(3) },
		}
		beside(2, func(i int) {
			for j := range steps {
				if i == 0 {
					made[j] = j + 1
					ask(h, steps[j])
					continue
				}
				if !soon(heard[j]) || made[j] != j+1 {
					t.Error("not seen:", j)
					return
				}
			}
		})
		if t.Failed() {
			return
		}
	}
}

// soon waits till something is so; false: it was not for so long that it will not be.
func soon(is func() bool) bool {
	for range 10000000 {
		if is() {
			return true
		}
		runtime.Gosched()
	}
	return false
}
