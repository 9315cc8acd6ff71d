package sweep_test

import (
	"testing"

	"dapple/api"
)

// eachKind hands on a cell of each kind, with words that are any.
func eachKind(do func(c api.Cell)) {
	for kind := api.KindPair; kind <= api.KindClosure; kind++ {
		for _, w := range [][2]api.Word{{integer(5), ref(3)}, {ref(0), ref(0)}, {0, 0}, {1<<64 - 1, 18}, {ref(9), ref(1<<31 - 1)}} {
			do(api.Cell{Kind: kind, A: w[0], B: w[1]})
		}
	}
}

// withAt is a sweeper whose next cell is this one, in a heap of four where all others are white or black.
func withAt(t *testing.T, cell int, c api.Cell) desk {
	t.Helper()
	l := cellsOf("bwbw")
	l[cell] = c
	d := deskWith(t, l)
	d.begins()
	d.steps(0, "bwbw"[:cell])
	return d
}

// TestStepAtEach: at the first, the last, and each cell between; of each kind, with any words; free, white, grey, black.
func TestStepAtEach(t *testing.T) {
	for cell := range 4 {
		d := withAt(t, cell, api.Cell{})
		d.step(cell, false)
		eachKind(func(c api.Cell) {
			for colour, letter := range []byte("wgb") {
				c.Colour = api.Colour(colour)
				d := withAt(t, cell, c)
				if letter == 'g' {
					d.refused()
					d.tells(cell, cell/2)
					continue
				}
				d.step(cell, letter == 'w')
				d.steps(cell+1, "bwbw"[cell+1:])
				d.refused()
			}
		})
	}
}

// TestNothingOfAFreedOneIsLeft: it is as a free one is, and may be made anew.
func TestNothingOfAFreedOneIsLeft(t *testing.T) {
	d := begun(t, "wwww")
	d.step(0, true)
	if kind, colour, e := d.h.Head(0); kind != api.KindFree || colour != api.White || e != api.OK {
		t.Errorf("%d, %d, %d", kind, colour, e)
	}
	if _, e := d.h.Load(0, 0); e != api.ErrCellsNone {
		t.Errorf("Load: %d", e)
	}
	d.fill(0, 'g')
	d.step(1, true)
	d.letters("g.ww")
}

// TestBehindTheLast: it is refused, whatever becomes of the cells then.
func TestBehindTheLast(t *testing.T) {
	d := begun(t, "wb.w")
	d.steps(0, "wb.w")
	d.refused()
	d.turn(1, 'g')
	d.refused()
	d.fill(3, 'w')
	d.fill(0, 'b')
	d.refused()
	d.letters("bg.w")
	d.tells(4, 2)
}

// TestRefusedAtEach: a grey cell holds the sweep up at the first, the last, and each cell between, till it is white, black or free.
func TestRefusedAtEach(t *testing.T) {
	for cell := range 6 {
		for _, then := range []byte("wb.") {
			letters := []byte("wb.wbw")
			letters[cell] = 'g'
			d := begun(t, string(letters))
			d.steps(0, "wb.wbw"[:cell])
			for range 5 {
				d.refused()
			}
			if then == '.' {
				d.drop(cell)
			} else {
				d.turn(cell, then)
			}
			d.step(cell, then == 'w')
			d.steps(cell+1, "wb.wbw"[cell+1:])
			d.refused()
		}
	}
}

// TestAllGrey: it is held up by each of them, one behind the other.
func TestAllGrey(t *testing.T) {
	d := begun(t, "gggg")
	for cell := range 4 {
		d.refused()
		d.turn(cell, "bwbw"[cell])
		d.step(cell, cell%2 == 1)
	}
	d.refused()
	d.tells(4, 2)
	d.letters("w.w.")
}

// TestGreyAheadAndBehind: only the next cell holds it up.
func TestGreyAheadAndBehind(t *testing.T) {
	d := begun(t, "bbwgw")
	d.step(0, false)
	d.turn(0, 'g')
	d.steps(1, "bw")
	d.refused()
	d.turn(3, 'b')
	d.steps(3, "bw")
	d.refused()
	d.letters("gw.w.")
}

// TestOthersBehind: what others do behind the sweeper is not seen by it, and stays.
func TestOthersBehind(t *testing.T) {
	for what, do := range map[string]func(d desk){
		"bw..wb": func(d desk) { d.turn(0, 'b') },
		"gw..wb": func(d desk) { d.turn(0, 'g') },
		".w..wb": func(d desk) { d.drop(0) },
		"ww.wwb": func(d desk) { d.fill(3, 'w') },
		"ww.gwb": func(d desk) { d.fill(3, 'g') },
		"ww.bwb": func(d desk) { d.fill(3, 'b') },
		"ww..wb": func(d desk) { d.write(0, 0, integer(7)); d.write(1, 1, ref(4)) },
		"wb.wwb": func(d desk) { d.turn(1, 'b'); d.fill(3, 'w'); d.drop(1); d.fill(1, 'b') },
	} {
		d := begun(t, "bb.wwb")
		d.steps(0, "bb.w")
		do(d)
		d.letters(what)
		d.steps(4, "wb")
		d.refused()
		d.tells(6, 2)
		d.letters(what[:4] + ".w")
	}
}

// TestOthersAtTheNext: it is swept as it is when the step comes.
func TestOthersAtTheNext(t *testing.T) {
	for _, from := range []byte(".wgb") {
		for _, to := range []byte(".wgb") {
			d := begun(t, "w"+string(from)+"wb")
			d.step(0, true)
			if from == 'g' {
				d.refused()
			}
			if from != '.' {
				d.drop(1)
			}
			if to != '.' {
				d.fill(1, to)
			}
			if to == 'g' {
				d.refused()
				d.tells(1, 1)
				d.turn(1, 'b')
			}
			d.step(1, to == 'w')
			d.steps(2, "wb")
			d.refused()
		}
	}
}

// TestOthersTurnTheNext: the same of a cell that stays, but for its colour.
func TestOthersTurnTheNext(t *testing.T) {
	for _, from := range []byte("wgb") {
		for _, to := range []byte("wb") {
			d := begun(t, "b"+string(from)+"wb")
			d.step(0, false)
			d.turn(1, 'g')
			d.refused()
			d.turn(1, to)
			d.step(1, to == 'w')
			d.steps(2, "wb")
		}
	}
}

// TestOthersAhead: what others do ahead of the sweeper is seen when it comes there, not sooner.
func TestOthersAhead(t *testing.T) {
	d := begun(t, "bwb.wwb")
	d.step(0, false)
	d.drop(2)
	d.fill(3, 'b')
	d.turn(4, 'b')
	d.turn(6, 'w')
	d.letters("ww.bbww")
	d.step(1, true)
	d.turn(5, 'g')
	d.letters("w..bbgw")
	d.steps(2, ".bb")
	d.refused()
	d.turn(5, 'w')
	d.steps(5, "ww")
	d.refused()
	d.tells(7, 3)
	d.letters("w..ww..")
}

// TestOthersShade: the heap's own Shade, of what is white behind, at the next, ahead; of what is black and free it does nothing.
func TestOthersShade(t *testing.T) {
	d := begun(t, "bw.wbw")
	d.step(0, false)
	for cell, want := range []bool{true, true, false, true, false, true} {
		if d.h.Shade(cell) != want {
			t.Fatalf("Shade(%d) is not %v", cell, want)
		}
	}
	d.letters("gg.gbg")
	d.refused()
	d.turn(1, 'b')
	d.steps(1, "b.")
	d.refused()
	d.turn(3, 'w')
	d.steps(3, "wb")
	d.refused()
	d.tells(5, 1)
	d.letters("gw..wg")
}

// TestOthersWrite: what was written into a black cell ahead of its step stands there behind it; a white one is freed all the same.
func TestOthersWrite(t *testing.T) {
	d := begun(t, "bbwb")
	for cell := range 4 {
		d.write(cell, 0, ref(3-cell))
		d.write(cell, 1, integer(cell))
	}
	d.step(0, false)
	d.write(0, 0, integer(50))
	d.write(1, 0, ref(0))
	d.write(3, 1, ref(1))
	d.step(1, false)
	d.write(1, 1, integer(51))
	d.steps(2, "wb")
	want := cellsOf("ww.w")
	want[0].A, want[0].B = integer(50), integer(0)
	want[1].A, want[1].B = ref(0), integer(51)
	want[3].A, want[3].B = ref(0), ref(1)
	d.has(want)
}

// TestOthersWhileRefused: they may change all else: it is refused till the cell itself is no more grey.
func TestOthersWhileRefused(t *testing.T) {
	d := begun(t, "bwgw.b")
	d.steps(0, "bw")
	d.refused()
	d.drop(0)
	d.refused()
	d.fill(1, 'b')
	d.turn(3, 'b')
	d.fill(4, 'g')
	d.refused()
	d.write(2, 0, ref(5))
	d.refused()
	d.drop(2)
	d.fill(2, 'g')
	d.refused()
	d.tells(2, 1)
	d.turn(2, 'w')
	d.steps(2, "wb")
	d.refused()
	d.turn(4, 'b')
	d.steps(4, "bb")
	d.refused()
	d.letters(".b.www")
}
