package mark_test

import (
	"testing"

	"dapple/api"
)

func TestScanOfAnEmptyRow(t *testing.T) {
	d := newDesk(t, chapters)
	d.scansNone()
	d.lays([]int{4, -1, 5})
	d.scansNone()
	d.lays([]int{1}, 1)
	d.scans(1)
	d.scansNone()
	d.lays([]int{1})
	d.scansNone()
	d.colours("wbww.")
}

// TestAAheadOfB: whichever has the lesser number.
func TestAAheadOfB(t *testing.T) {
	d := newDesk(t, "r1 r2, r5 r4, n n, r2 r5, n n, n n")
	d.lays([]int{0, 3}, 0, 3)
	d.scans(0, 1, 2)
	d.scans(3, 5)
	d.scans(1, 4)
	d.grey(2, 5, 4)
	d = newDesk(t, "r3 r1, n n, n n, n n")
	d.lays([]int{0}, 0)
	d.scans(0, 3, 1)
}

// TestEachKind: both words of each are looked at, whatever they are of.
func TestEachKind(t *testing.T) {
	for _, kind := range []string{"", "box ", "clo "} {
		for s, want := range map[string][]int{
			"r1 r2": {1, 2}, "r2 r1": {2, 1}, "r1 n": {1}, "n r1": {1}, "5 r2": {2}, "r2 5": {2}, "n n": nil, "r4 r9": nil, "x0 x0": nil,
			"s1 p2": nil, "1 2": nil, "r1 r4": {1}, "r9 r2": {2}, "x800000018 r2": {2},
		} {
			d := newDesk(t, kind+s+", n n, n n, n n, free")
			d.lays([]int{0}, 0)
			d.scans(0, want...)
		}
	}
}

// TestAAndBTheSame: the cell is told once.
func TestAAndBTheSame(t *testing.T) {
	d := newDesk(t, "r3 r3, n n, n n, r0 r0")
	d.lays([]int{0}, 0)
	d.scans(0, 3)
	d.scans(3)
	d.scansNone()
	d.colours("bwwb")
}

// TestNamesItself: it is grey already, and is black then, not met again.
func TestNamesItself(t *testing.T) {
	for _, s := range []string{"r0 r0", "r0 n", "n r0"} {
		d := newDesk(t, s)
		d.lays([]int{0}, 0)
		d.scans(0)
		d.scansNone()
		d.colours("b...")
	}
}

// TestNamesEachOther: rings of two and of four end.
func TestNamesEachOther(t *testing.T) {
	d := newDesk(t, "r1 n, n r0, n n, n n")
	d.shades("r1", 1)
	d.scans(1, 0)
	d.scans(0)
	d.scansNone()
	d.colours("bbww")
	d = newDesk(t, "r2 r2, r0 n, r3 r3, r1 r1")
	d.shades("r3", 3)
	d.scans(3, 1)
	d.scans(1, 0)
	d.scans(0, 2)
	d.scans(2)
	d.scansNone()
	d.colours("bbbb")
}

// TestNamesFreeOnes: they are not met.
func TestNamesFreeOnes(t *testing.T) {
	d := newDesk(t, "r1 r2, free, n n, free")
	d.lays([]int{0}, 0)
	d.scans(0, 2)
	d.colours("b.g.")
}

// TestNamesCellsOfAllColours: only the white one is met.
func TestNamesCellsOfAllColours(t *testing.T) {
	d := newDesk(t, "r1 r2, grey n n, n n, r4 r2, black n n")
	d.lays([]int{0, 3}, 0, 3)
	d.scans(0, 2)
	d.scans(3)
	d.scans(2)
	d.scansNone()
	d.colours("bgbbb")
}

// TestDroppedSince: it is told, but nothing of it is shaded, and it stays free.
func TestDroppedSince(t *testing.T) {
	d := newDesk(t, "r1 r2, n n, n n, r2 n")
	d.lays([]int{0, 3}, 0, 3)
	d.drops(0)
	d.grey(0, 3)
	d.scans(0)
	d.colours(".wwg")
	d.scans(3, 2)
	d.scans(2)
	d.scansNone()
	d.colours(".wbb")
}

// TestMadeAnewSince: what is there now is looked into; a white or black one keeps its colour, a grey one is black.
func TestMadeAnewSince(t *testing.T) {
	for s, want := range map[string]string{"r2 r1": "wggw", "grey box r2 r1": "bggw", "black clo r2 r1": "bggw"} {
		d := newDesk(t, "r3 r3, n n, n n, n n")
		d.lays([]int{0}, 0)
		d.drops(0)
		d.makes(0, s)
		d.scans(0, 2, 1)
		d.grey(2, 1)
		d.colours(want)
	}
}

// TestWhitenedSince: its words are shaded, it stays white, and may be shaded again.
func TestWhitenedSince(t *testing.T) {
	d := newDesk(t, "r1 n, n n, n n, n n")
	d.lays([]int{0}, 0)
	d.turns(0, api.White)
	d.scans(0, 1)
	d.colours("wgww")
	d.shades("r0", 0)
	d.grey(1, 0)
	d.scans(1)
	d.scans(0)
	d.colours("bbww")
}

// TestWhitenedSinceAndNamesItself: by its own word it becomes grey and stands behind the row; then it is grey, so it is black.
func TestWhitenedSinceAndNamesItself(t *testing.T) {
	for _, s := range []string{"r0 r1", "r0 r0", "r1 r0"} {
		d := newDesk(t, s+", n n, n n, n n")
		d.lays([]int{0, 1}, 0, 1)
		d.turns(0, api.White)
		d.scans(0, 0)
		d.grey(1, 0)
		d.colours("bgww")
		d.scans(1)
		d.scans(0)
		d.scansNone()
		d.colours("bbww")
	}
}

// TestBlackenedSince: its words are shaded, and it stays black.
func TestBlackenedSince(t *testing.T) {
	d := newDesk(t, "r1 r2, n n, n n, n n")
	d.lays([]int{0}, 0)
	d.turns(0, api.Black)
	d.scans(0, 1, 2)
	d.scans(1)
	d.turns(2, api.Black)
	d.scans(2)
	d.scansNone()
	d.colours("bbbw")
}

// TestGreyAgainSince: one that was whitened, and that somebody else shaded, stands in the row once.
func TestGreyAgainSince(t *testing.T) {
	d := newDesk(t, "r1 n, n n, n n, n n")
	d.lays([]int{0}, 0)
	d.turns(0, api.White)
	d.turns(0, api.Grey)
	d.lays([]int{0})
	d.scans(0, 1)
	d.grey(1)
	d.colours("bgww")
}

// TestTwiceInTheRow: it is told at each of its places, and looked into as it is then.
func TestTwiceInTheRow(t *testing.T) {
	d := newDesk(t, "r1 n, n n, n n, n n")
	d.lays([]int{0}, 0)
	d.turns(0, api.White)
	d.lays([]int{0, 3}, 0, 3)
	d.scans(0, 1)
	d.writes(0, 1, "r2")
	d.scans(0, 2)
	d.grey(3, 1, 2)
	d.colours("bggg")
}

// TestWrittenSince: what the cell names when it is looked into is shaded, not what it named when it became grey.
func TestWrittenSince(t *testing.T) {
	d := newDesk(t, "r1 r1, n n, n n, n n")
	d.lays([]int{0}, 0)
	d.writes(0, 0, "r3")
	d.writes(0, 1, "r2")
	d.scans(0, 3, 2)
	d.colours("bwgg")
}

// TestWhatItNamesChangedSince: what was dropped is not met, what was made is.
func TestWhatItNamesChangedSince(t *testing.T) {
	d := newDesk(t, "r1 r2, n n, free, n n")
	d.lays([]int{0}, 0)
	d.drops(1)
	d.makes(2, "r1 r3")
	d.scans(0, 2)
	d.scans(2, 3)
	d.colours("b.bg")
}

// TestLastBecomesFirst: what is met goes behind all that stand in the row, ahead of what is shaded later.
func TestLastBecomesFirst(t *testing.T) {
	d := newDesk(t, "r4 r5, r6 n, n n, n n, n n, n n, n n, n n")
	d.lays([]int{0, 1, 2}, 0, 1, 2)
	d.scans(0, 4, 5)
	d.shades("r7 r4", 7)
	d.scans(1, 6)
	d.lays([]int{3}, 3)
	d.grey(2, 4, 5, 7, 6, 3)
	for _, cell := range []int{2, 4, 5, 7, 6, 3} {
		d.scans(cell)
	}
	d.scansNone()
	d.colours("bbbbbbbb")
}

// TestAgainBehindTheEnd: a row that was empty is filled again, cycle by cycle.
func TestAgainBehindTheEnd(t *testing.T) {
	d := newDesk(t, chapters)
	for range 100 {
		d.shades("r3", 3)
		d.scans(3, 1)
		d.scans(1)
		d.scansNone()
		d.shades("r2", 2)
		d.scans(2, 0)
		d.scans(0)
		d.scansNone()
		d.colours("bbbb.")
		for cell := range 4 {
			d.turns(cell, api.White)
		}
	}
}
