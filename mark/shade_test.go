package mark_test

import (
	"slices"
	"strconv"
	"testing"

	"dapple/api"
)

// five is a white pair, a grey box, a black closure, a free cell, and a white pair as the last one.
const five = "n n, grey box 5 n, black clo 0 n, free, 1 n"

func TestShadeOfNothing(t *testing.T) {
	d := newDesk(t, five)
	d.shades("")
	d.lays(nil)
	d.lays([]int{})
	if l := d.m.Shade([]api.Word{}...); len(l) != 0 {
		t.Errorf("Shade: %v", l)
	}
	d.lays([]int{4}, 4)
	d.shades("")
	d.lays(nil)
	d.grey(4)
	d.colours("wgb.g")
}

// TestEachColour: of white, grey, black and free cells only white ones are shaded, by a number as by a reference.
func TestEachColour(t *testing.T) {
	for cell, want := range [][]int{{0}, nil, nil, nil, {4}} {
		to := []string{"ggb.w", "wgb.w", "wgb.w", "wgb.w", "wgb.g"}[cell]
		d := newDesk(t, five)
		d.lays([]int{cell}, want...)
		d.colours(to)
		d = newDesk(t, five)
		d.shades("r"+strconv.Itoa(cell), want...)
		d.colours(to)
	}
}

// TestTheSameTwice: in one call and in two, by words and by numbers.
func TestTheSameTwice(t *testing.T) {
	d := newDesk(t, "n n, n n, n n, n n")
	d.shades("r2 r2", 2)
	d.shades("r2")
	d.lays([]int{2})
	d.lays([]int{0, 0, 2, 0}, 0)
	d.shades("r0 r1 r0 r1 r2", 1)
	d.grey(2, 0, 1)
	d.colours("gggw")
	d.scans(2)
	d.shades("r2")
	d.lays([]int{2, 2})
	d.grey(0, 1)
	d.colours("ggbw")
}

// TestOrderOfWhatIsTold: as they were handed in, not by their numbers, and behind those that were shaded earlier.
func TestOrderOfWhatIsTold(t *testing.T) {
	d := newDesk(t, "n n, n n, n n, n n, n n, n n, n n, n n")
	d.shades("r5 r2 r7", 5, 2, 7)
	d.lays([]int{3, 7, 0}, 3, 0)
	d.shades("r6 r0 r1", 6, 1)
	d.grey(5, 2, 7, 3, 0, 6, 1)
	for _, cell := range []int{5, 2, 7, 3, 0, 6, 1} {
		d.scans(cell)
	}
	d.scansNone()
	d.colours("bbbbwbbb")
}

// TestNumbersOfNoCell: below 0, behind the last one, and where a number that is cut to fewer bits would be a cell's.
func TestNumbersOfNoCell(t *testing.T) {
	d := newDesk(t, "n n, n n, n n, n n")
	for _, n := range edges(4) {
		d.lays([]int{n})
		d.lays([]int{n, n})
	}
	d.lays(edges(4))
	d.scansNone()
	d.colours("wwww")
	d.lays(slices.Concat(edges(4), []int{3}, edges(4), []int{0}), 3, 0)
	d.colours("gwwg")
}

// TestReferencesToNoCell: they change nothing, up to the greatest that there is.
func TestReferencesToNoCell(t *testing.T) {
	d := newDesk(t, "n n, n n, n n, n n")
	d.shades("r4 r5 r9 r4095 r4096 r65536 r2147483646 r2147483647")
	d.scansNone()
	d.shades("r4 r3 r2147483647 r0 r5", 3, 0)
	d.colours("gwwg")
}

// TestWordsThatAreNoReferences: of every tag, with the number of a white cell where the tag has it, and what is no word.
func TestWordsThatAreNoReferences(t *testing.T) {
	d := newDesk(t, "n n, n n, n n, n n")
	for tag := range api.Tag(16) {
		for _, n := range []int64{-1 << 59, -1 << 31, -1, 0, 1, 2, 3, 22, 1<<31 - 1, 1 << 31, 1 << 32, 1<<32 + 1, 1 << 59} {
			w := bits(tag, n)
			if tag == api.TagRef && n >= 0 && n <= 1<<31-1 {
				continue
			}
			if l := d.m.Shade(w, w); len(l) != 0 {
				t.Fatalf("Shade(%x): %v", w, l)
			}
		}
	}
	d.shades("0 1 2 3 n s0 s1 p1 p2 p3 x0 xffffffffffffffff x8000000000000008 x800000008 xfffffffffffffff8")
	d.scansNone()
	d.colours("wwww")
	d.shades("n r1 s2 7 r2 x0", 1, 2)
	d.colours("wggw")
}

// TestShadeAndLayAreOne: words of references do just what their numbers do, one by one or all at one time.
func TestShadeAndLayAreOne(t *testing.T) {
	l := []int{3, 0, 2, 9, 0, 1, 4}
	for way := range 4 {
		d := newDesk(t, chapters)
		var met []int
		switch way {
		case 0:
			met = d.m.Lay(l...)
		case 1:
			for _, cell := range l {
				met = append(met, d.m.Lay(cell)...)
			}
		case 2:
			met = d.m.Shade(wordsOf("r3 r0 r2 r9 r0 r1 r4")...)
		case 3:
			for _, cell := range l {
				met = append(met, d.m.Shade(ref(cell))...)
			}
		}
		if !slices.Equal(met, []int{3, 0, 2, 1}) {
			t.Errorf("way %d: %v", way, met)
		}
		d.grey(3, 0, 2, 1)
		d.colours("gggg.")
	}
}

// TestShadedByOthers: what somebody else has shaded is not told, and does not stand in the row.
func TestShadedByOthers(t *testing.T) {
	d := newDesk(t, "r1 r2, n n, n n, n n")
	if !d.h.Shade(1) {
		t.Fatal("the heap's Shade")
	}
	d.lays([]int{1})
	d.shades("r0 r1", 0)
	d.scans(0, 2)
	d.grey(2)
	d.colours("bggw")
}

// TestWhitenedByOthers: it is white again, so that it becomes grey again, and stands in the row a second time.
func TestWhitenedByOthers(t *testing.T) {
	d := newDesk(t, "n n, n n, n n, n n")
	d.lays([]int{0, 1}, 0, 1)
	d.turns(0, api.White)
	d.lays([]int{1, 0}, 0)
	d.grey(0, 1, 0)
	d.scans(0)
	d.colours("bgww")
	d.turns(0, api.White)
	d.shades("r0", 0)
	d.grey(1, 0, 0)
}
