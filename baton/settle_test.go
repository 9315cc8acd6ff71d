package baton_test

import (
	"math"
	"math/rand"
	"slices"
	"testing"

	"dapple/api"
	"dapple/baton"
)

// counting are three threads that count in their globals, a step each, up to 3; with their ends there are 12 steps.
func counting(t *testing.T) desk {
	t.Helper()
	text := "const int 1\nconst int 2\nconst int 3\nglobal x\nglobal y\nglobal z\n"
	for _, n := range []string{"0", "1", "2"} {
		text += "proc 0\n const 0\n setglobal " + n + "\n pop\n const 1\n setglobal " + n + "\n pop\n const 2\n setglobal " + n + "\n return\n"
	}
	d := newDesk(t, 4, 0, parsed(t, text))
	d.starts(0, 1, 2)
	return d
}

// counts sees how far each has counted.
func (d desk) counts(want ...int64) {
	d.Helper()
	var l []api.Word
	for _, n := range want {
		if n == 0 {
			l = append(l, tagged(api.TagNone, 0))
		} else {
			l = append(l, number(n))
		}
	}
	if got := d.Globals(); !slices.Equal(got, l) {
		d.Errorf("counts %v, not %v", got, l)
	}
}

// TestSettleCounts: below 1, 0, 1, just enough, one more.
func TestSettleCounts(t *testing.T) {
	for _, row := range []struct{ most, want int }{{math.MinInt, 0}, {-1, 0}, {0, 0}, {1, 1}, {2, 2}, {11, 11}, {12, 12}, {13, 12}, {1000000, 12}, {1000001, 12}, {math.MaxInt, 12}} {
		d := counting(t)
		if n := d.Settle(row.most); n != row.want || d.Steps() != row.want {
			t.Errorf("Settle(%d): %d, %d steps", row.most, n, d.Steps())
		}
		if n := d.Settle(100); n != 12-row.want || d.Steps() != 12 {
			t.Errorf("behind Settle(%d): %d, %d steps", row.most, n, d.Steps())
		}
		d.ready()
		d.counts(3, 3, 3)
		d.closes(4)
	}
}

// TestRounds: each goes one step a round, in the order of Ready; a Settle that ends in the midst of a round is followed by a new
// one.
func TestRounds(t *testing.T) {
	d := counting(t)
	d.Settle(3)
	d.counts(1, 1, 1)
	d.Settle(2)
	d.counts(2, 2, 1)
	d.Settle(1)
	d.counts(3, 2, 1)
	d.collects()
	d.Settle(1)
	d.counts(3, 2, 1)
	if phase, _ := d.Phase(); phase != api.PhaseRoots {
		t.Error(phase)
	}
	d.Settle(3)
	d.counts(3, 3, 1)
	if x, _ := d.Ended(1); !x.Ended {
		t.Error(x)
	}
}

// TestSettleMost: what goes on for ever goes 1000000 steps at most.
func TestSettleMost(t *testing.T) {
	t.Parallel()
	for _, row := range []struct{ most, want int }{{999999, 999999}, {1000000, 1000000}, {1000001, 1000000}, {math.MaxInt, 1000000}} {
		d := newDesk(t, 4, 0, compiled(t, "(while #t (yield))"))
		d.starts(0)
		if n := d.Settle(row.most); n != row.want || d.Steps() != row.want {
			t.Errorf("Settle(%d): %d, %d steps", row.most, n, d.Steps())
		}
		d.closes(2)
	}
}

// TestNewcomers: who is begun or woken in a round goes its step in the next one, and changes nobody's turn.
func TestNewcomers(t *testing.T) {
	program := compiled(t, "(define b (box 0)) (define w (lambda () (add b 1) (add b 10) (add b 100))) (lock 0) (define u (spawn (lambda () (lock 0) (w)))) (define v (spawn w)) (unlock 0) (join u) (join v) (unbox b)")
	for most := 1; most < 30; most++ {
		b := newBoth(t, api.Config{Cells: 30, Locks: 1}, program)
		b.makes(move{toStart, 0})
		for range 200 {
			b.makes(move{toSettle, most})
			b.looks()
		}
		if x, _ := b.Ended(1); x != (api.Ended{Ended: true, Word: number(222)}) {
			t.Error(most, x)
		}
		b.closes(4)
	}
}

// rounds does what Settle does, by picks.
func rounds(w *baton.Baton, most int) int {
	gone := 0
	for ready := w.Ready(); gone < most && len(ready) > 0; ready = w.Ready() {
		for _, actor := range ready {
			if at := slices.Index(w.Ready(), actor); at >= 0 && gone < most {
				w.Pick(uint32(at))
				gone++
			}
		}
	}
	return gone
}

// TestSettleIsRoundsOfPicks on drawn batons.
func TestSettleIsRoundsOfPicks(t *testing.T) {
	t.Parallel()
	settled := 0
	for seed := range int64(150) {
		r := rand.New(rand.NewSource(seed + 777))
		c, program := drawn(t, r)
		a, b := newDesk(t, c.Cells, c.Locks, program), newDesk(t, c.Cells, c.Locks, program)
		from := newMover(r)
		for range 60 {
			x := from.next(a)
			if r.Intn(2) == 0 {
				x = move{toSettle, r.Intn(30) - 1}
			}
			if x.what != toSettle {
				made(a, x)
				made(b, x)
				continue
			}
			n, m := a.Settle(x.n), rounds(b.Baton, x.n)
			settled += n
			if s := seen(a).differs(seen(b)); n != m || s != "" {
				t.Fatalf("seed %d: %d, %d; %s", seed, n, m, s)
			}
		}
	}
	if settled < 10000 {
		t.Error(settled)
	}
}
