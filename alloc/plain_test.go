package alloc_test

import (
	"fmt"
	"math/rand"
	"slices"
	"testing"

	"dapple/alloc"
	"dapple/api"
)

// The chapter once more, in the plainest way: by each cell's number stands who has it, and all is looked for from the beginning on.

const (
	plainFree = -1
	plainOut  = 0 // and 1 to 8: given to that thread
)

// plain is all that there is at one moment. It is never changed: what comes of a call is another one.
type plain struct {
	at  []int
	row []api.Waiter
}

func plainNew(cells int) plain {
	p := plain{}
	for range cells {
		p.at = append(p.at, plainFree)
	}
	return p
}

type what int

const (
	asking what = iota
	coming
	finishing
	whats
)

// call is one of the three calls that change something, with its two numbers.
type call struct {
	what what
	n, m int
}

func (c call) String() string {
	switch c.what {
	case asking:
		return fmt.Sprintf("Ask(%d, %d)", c.n, c.m)
	case coming:
		return fmt.Sprintf("Back(%d)", c.n)
	}
	return fmt.Sprintf("Finish(%d, %d)", c.n, c.m)
}

// made is what a call answers, as a text.
func made(a *alloc.Alloc, c call) string {
	switch c.what {
	case asking:
		cell, got, e := a.Ask(c.n, c.m)
		return fmt.Sprint(cell, got, int(e))
	case coming:
		thread, e := a.Back(c.n)
		return fmt.Sprint(thread, int(e))
	}
	return fmt.Sprint(a.Finish(c.n, c.m))
}

// plainMade is what the chapter says that it answers, and what is there then.
func plainMade(p plain, c call) (plain, string) {
	p = plain{slices.Clone(p.at), slices.Clone(p.row)}
	switch c.what {
	case asking:
		return plainAsk(p, c.n, c.m)
	case coming:
		return plainBack(p, c.n)
	}
	refused, stay := []int{}, []api.Waiter{}
	for _, w := range p.row {
		if c.m == 0 && w.Begun < c.n {
			refused = append(refused, w.Thread)
		} else {
			stay = append(stay, w)
		}
	}
	return plain{p.at, stay}, fmt.Sprint(refused)
}

func plainAsk(p plain, thread, begun int) (plain, string) {
	wrong := thread < 1 || 8 < thread
	for _, w := range p.row {
		wrong = wrong || w.Thread == thread
	}
	if wrong {
		return p, "0 false 120"
	}
	for _, is := range []int{thread, plainFree} {
		for cell := range p.at {
			if p.at[cell] == is {
				p.at[cell] = plainOut
				return p, fmt.Sprint(cell, true, 0)
			}
		}
	}
	return plain{p.at, append(p.row, api.Waiter{Thread: thread, Begun: begun})}, "0 false 0"
}

func plainBack(p plain, cell int) (plain, string) {
	if cell < 0 || len(p.at) <= cell || p.at[cell] != plainOut {
		return p, "0 120"
	}
	if len(p.row) == 0 {
		p.at[cell] = plainFree
		return p, "0 0"
	}
	p.at[cell] = p.row[0].Thread
	return plain{p.at, p.row[1:]}, fmt.Sprint(p.row[0].Thread, 0)
}

// plainFreeCells are those of p.
func plainFreeCells(p plain) []int {
	var out []int
	for cell, is := range p.at {
		if is == plainFree {
			out = append(out, cell)
		}
	}
	return out
}

// stands: what an Alloc tells of itself is what p has.
func stands(t *testing.T, a *alloc.Alloc, p plain, calls []call) {
	t.Helper()
	if l := a.Free(); !slices.Equal(l, plainFreeCells(p)) {
		t.Fatalf("%v: Free: %v, not %v", calls, l, plainFreeCells(p))
	}
	if l := a.Waiting(); !slices.Equal(l, p.row) {
		t.Fatalf("%v: Waiting: %v, not %v", calls, l, p.row)
	}
}

// plainRow makes a row of calls of a new Alloc, and holds each answer, and what is there then, against the chapter.
func plainRow(t *testing.T, cells int, calls []call) plain {
	t.Helper()
	a, e := alloc.New(cells)
	if e != api.OK {
		t.Fatalf("New(%d): %d", cells, e)
	}
	p := plainNew(cells)
	stands(t, a, p, nil)
	for i, c := range calls {
		next, want := plainMade(p, c)
		if got := made(a, c); got != want {
			t.Fatalf("%d cells, %v: %s, not %s", cells, calls[:i+1], got, want)
		}
		p = next
		stands(t, a, p, calls[:i+1])
	}
	return p
}

// fewCalls are all calls of few threads, cells and cycles, with the wrong ones.
func fewCalls() []call {
	var out []call
	for _, thread := range []int{0, 1, 2, 8, 9} {
		out = append(out, call{asking, thread, 0}, call{asking, thread, 1})
	}
	for cell := -1; cell <= 4; cell++ {
		out = append(out, call{coming, cell, 0})
	}
	for cycle := range 3 {
		out = append(out, call{finishing, cycle, 0}, call{finishing, cycle, 1})
	}
	return out
}

// TestAllThereCanBe: whatever there can be of four cells and three threads is come to on the shortest row of calls, and each call is made there.
func TestAllThereCanBe(t *testing.T) {
	ways := map[string][]call{fmt.Sprint(plainNew(4)): nil}
	work := [][]call{nil}
	waiting, given := 0, 0
	for len(work) > 0 {
		way := work[0]
		work = work[1:]
		for _, c := range fewCalls() {
			row := append(slices.Clone(way), c)
			p := plainRow(t, 4, row)
			key := fmt.Sprint(p)
			if _, ok := ways[key]; ok {
				continue
			}
			ways[key] = row
			work = append(work, row)
			waiting = max(waiting, len(p.row))
			if slices.Contains(p.at, 1) && slices.Contains(p.at, 2) && slices.Contains(p.at, 8) {
				given++
			}
		}
	}
	// With k gifts there are C(4, k) P(3, k) ways to lay them: 1, 12, 36, 24. While nobody waits, each other cell is free or
	// out: 304 in all. Else all are out, and those without a gift wait in some order, with one begun of two: 78, 12, 2, 0
	// rows: 294 in all.
	if len(ways) != 598 || waiting != 3 || given == 0 {
		t.Errorf("%d are come to, %d wait, three gifts in %d", len(ways), waiting, given)
	}
}

// drawnCall is a call that may well be right, of so many cells, while p is there.
func drawnCall(r *rand.Rand, p plain) call {
	switch r.Intn(20) {
	case 0:
		return call{what(r.Intn(int(whats))), r.Intn(len(p.at)+8) - 4, r.Intn(3) - 1}
	case 1:
		l := edges()
		return call{what(r.Intn(int(whats))), l[r.Intn(len(l))], l[r.Intn(len(l))]}
	case 2:
		return call{finishing, r.Intn(8), r.Intn(3) / 2}
	}
	if r.Intn(9) < 4 {
		return call{coming, r.Intn(len(p.at)), 0}
	}
	return call{asking, 1 + r.Intn(8), r.Intn(8)}
}

// drawnRow hands on a row of calls of which many are right, as they are drawn, with what is there ahead of each.
func drawnRow(r *rand.Rand, cells, many int) []call {
	p := plainNew(cells)
	var out []call
	for range many {
		c := drawnCall(r, p)
		// Phases in which all ask, or all give back, so that the row grows long and gets short again.
		if len(out)/40%3 == 0 && c.what == coming && r.Intn(4) > 0 {
			c = call{asking, 1 + r.Intn(8), r.Intn(8)}
		}
		if len(out)/40%3 == 1 && c.what == asking && r.Intn(4) > 0 {
			c = call{coming, r.Intn(cells), 0}
		}
		p, _ = plainMade(p, c)
		out = append(out, c)
	}
	return out
}

func TestDrawnRows(t *testing.T) {
	r := rand.New(rand.NewSource(121))
	for i := range 400 {
		cells := 4 + r.Intn(9)
		if i%20 == 0 {
			cells = 4 + r.Intn(60)
		}
		plainRow(t, cells, drawnRow(r, cells, 300))
	}
}

func FuzzPlain(f *testing.F) {
	f.Add(uint8(0), []byte{1, 2, 3, 4, 5, 0x41, 0x82, 0x47, 0x9f})
	f.Add(uint8(3), []byte{8, 8, 8, 8, 8, 8, 8, 8, 7, 0x40, 0x83, 0xc1})
	f.Fuzz(func(t *testing.T, more uint8, bytes []byte) {
		cells := 4 + int(more)%5
		var calls []call
		for _, b := range bytes {
			n, m := int(b&15), int(b>>4&3)
			switch b >> 6 {
			case 0, 1:
				calls = append(calls, call{asking, n, m})
			case 2:
				calls = append(calls, call{coming, n - 1, 0})
			case 3:
				calls = append(calls, call{finishing, n % 5, m % 2})
			}
		}
		plainRow(t, cells, calls)
	})
}
