package graph_test

import (
	"testing"

	"dapple/api"
)

// reachedRow is a heap and roots with what is reached, in order, and its form.
type reachedRow struct {
	heap, roots    string
	order          string
	form, ownRoots string
}

func reachedRows() []reachedRow {
	return []reachedRow{
		// roots
		{"n n", "", "", "", ""},
		{"n n", "n 5 s3 p1 f t none", "", "", "n 5 s3 p1 f t none"},
		{"n n", "r0", "0", "n n", "r0"},
		{"n n, 1 2", "r1 r1 r1", "1", "1 2", "r0 r0 r0"},
		{"n n, 1 2, 3 4", "r2 5 r0 n r2", "2 0", "3 4, n n", "r0 5 r1 n r0"},
		{"1 n, 2 n, 3 n", "r2 r1 r0", "2 1 0", "3 n, 2 n, 1 n", "r0 r1 r2"},
		// words of every tag stay as they are
		{"r1 f, t none, s7 p9, -5 n", "r0 r2 r3", "0 2 3 1", "r3 f, s7 p9, -5 n, t none", "r0 r1 r2"},
		// cells that name themselves and each other
		{"r0 n", "r0", "0", "r0 n", "r0"},
		{"n n, r1 r1", "r1", "1", "r0 r0", "r0"},
		{"r1 n, n r0", "r0", "0 1", "r1 n, n r0", "r0"},
		{"r1 n, n r0", "r1", "1 0", "n r1, r0 n", "r0"},
		{"r1 r2, r2 r0, r0 r1", "r2", "2 0 1", "r1 r2, r2 r0, r0 r1", "r0"},
		// chains, over A and over B
		{"n n, r0 n, r1 n, r2 n", "r3", "3 2 1 0", "r1 n, r2 n, r3 n, n n", "r0"},
		{"n r1, n r2, n r3, n n", "r1", "1 2 3", "n r1, n r2, n n", "r0"},
		// trees: by breadth, A ahead of B
		{"r1 r2, r3 r4, r5 r6, n n, n n, n n, n n", "r0", "0 1 2 3 4 5 6", "r1 r2, r3 r4, r5 r6, n n, n n, n n, n n", "r0"},
		{"n n, n n, n n, n n, r3 r2, r1 r0, r5 r4", "r6", "6 5 4 1 0 3 2", "r1 r2, r3 r4, r5 r6, n n, n n, n n, n n", "r0"},
		{"r1 r4, r2 r3, n n, n n, n r2", "r0", "0 1 4 2 3", "r1 r2, r3 r4, n r3, n n, n n", "r0"},
		// cells that are met twice
		{"r2 r1, r2 n, r1 n", "r0", "0 2 1", "r1 r2, r2 n, r1 n", "r0"},
		{"r1 r1, 5 n", "r0", "0 1", "r1 r1, 5 n", "r0"},
		{"r1 r2, r3 n, n r3, 7 n", "r0", "0 1 2 3", "r1 r2, r3 n, n r3, 7 n", "r0"},
		{"n r1, 1 n, r1 n", "r1 r0 r2", "1 0 2", "1 n, n r0, r0 n", "r0 r1 r2"},
		// boxes and closures name cells by both words too
		{"box r1 r2, 1 n, 2 n", "r0", "0 1 2", "box r1 r2, 1 n, 2 n", "r0"},
		{"clo r1 r2, 1 n, 2 n", "r0", "0 1 2", "clo r1 r2, 1 n, 2 n", "r0"},
		{"clo 3 r1, r2 r0, box -1 n", "r0", "0 1 2", "clo 3 r1, r2 r0, box -1 n", "r0"},
		// free cells that are reached, and what hangs behind them
		{"free r1 r1, n n", "r0", "0", "free x0 x0", "r0"},
		{"r1 n, free r2 r0, n n", "r0", "0 1", "r1 n, free x0 x0", "r0"},
		{"r1 n, free r2 x0, 5 n", "r1 r2", "1 2", "free x0 x0, 5 n", "r0 r1"},
		{"r1 r2, free r3 r4, free n n, n n, n n", "r0", "0 1 2", "r1 r2, free x0 x0, free x0 x0", "r0"},
		{"r1 r2, free r3 n, r3 n, 1 n", "r0", "0 1 2 3", "r1 r2, free x0 x0, r3 n, 1 n", "r0"},
		{"free r0 r0", "n", "", "", "n"},
		// colours do not matter, and are white in the form
		{"grey r1 n, black box r2 n, grey free n n", "r0", "0 1 2", "r1 n, box r2 n, free x0 x0", "r0"},
		{"black clo 0 r0", "r0", "0", "clo 0 r0", "r0"},
		{"black free n n", "r0", "0", "free x0 x0", "r0"},
	}
}

func TestWhatIsReached(t *testing.T) {
	for _, row := range reachedRows() {
		h, roots, order := heapOf(row.heap), wordsOf(row.roots), numbersOf(row.order)
		checks(t, h, api.OK, 0)
		reached := make([]bool, len(h))
		for _, cell := range order {
			reached[cell] = true
		}
		reaches(t, h, roots, reached)
		orders(t, h, roots, order)
		hasForm(t, h, roots, heapOf(row.form), wordsOf(row.ownRoots))
	}
}

// TestFreeCellsInForms: they are cells of noughts, whatever they had.
func TestFreeCellsInForms(t *testing.T) {
	for colour := range 3 {
		h := []api.Cell{{Colour: api.Colour(colour), A: ref(0), B: ^api.Word(0)}}
		hasForm(t, h, wordsOf("r0"), []api.Cell{{}}, wordsOf("r0"))
	}
}

// pathRow is a heap and roots with the way to a cell; none has no cells.
type pathRow struct {
	heap, roots string
	to          int
	way         string
}

func pathRows() []pathRow {
	return []pathRow{
		{"n n", "r0", 0, "0"},
		{"n n", "", 0, ""},
		{"n n", "0 n s0 p1", 0, ""},
		{"r0 r0", "", 0, ""},
		{"r0 r0", "r0", 0, "0"},
		{"r1 n, r0 n", "r0 r1", 1, "1"},
		{"r1 n, r0 n", "r0", 1, "0 1"},
		{"r1 n, r2 n, r0 n", "r0 r0", 2, "0 1 2"},
		// shorter ones win, whatever their numbers
		{"r1 n, r2 n, n n, r2 n", "r0 r3", 2, "3 2"},
		{"r1 r4, r2 n, r3 n, n n, r3 n", "r0", 3, "0 4 3"},
		{"r1 n, n n, r1 n", "r0 r2 r1", 1, "1"},
		// of several the least: at the root, in the midst, by A or by B
		{"n n, r3 n, r3 n, n n", "r2 r1", 3, "1 3"},
		{"n n, r3 n, r3 n, n n", "r1 r2", 3, "1 3"},
		{"r2 r1, r3 n, n r3, n n", "r0", 3, "0 1 3"},
		{"r1 r2, r3 n, n r3, n n", "r0", 3, "0 1 3"},
		// the first number that is different counts, not the last one
		{"r3 n, r2 n, r5 n, r5 n, n n, n n", "r1 r0", 5, "0 3 5"},
		{"r9 n, r8 n, n n, n n, n n, n n, n n, n n, r7 n, r6 n, n n", "r1 r0", 7, "1 8 7"},
		{"r4 r3, n n, n n, r5 n, r6 n, r7 n, r7 n, n n", "r0", 7, "0 3 5 7"},
		{"r4 r3, n n, n n, r6 n, r5 n, r7 n, r7 n, n n", "r0", 7, "0 3 6 7"},
		// a lesser cell that is farther off, or does not lead there, does not count
		{"n n, r0 r3, r4 n, r4 n, n n", "r2 r1", 4, "2 4"},
		{"n n, n n, r1 r3, r4 n, n n", "r2 r0", 4, "2 3 4"},
		// no way goes over a free cell, but may end at one
		{"r1 r2, free r3 n, r4 n, n n, r3 n", "r0", 3, "0 2 4 3"},
		{"r1 r2, free r3 n, r4 n, n n, r3 n", "r0", 1, "0 1"},
		{"free r1 n, n n", "r0", 1, ""},
		{"free r1 n, n n", "r0", 0, "0"},
		{"free r1 n, n n", "r0 r1", 1, "1"},
		// boxes and closures lead on by both words
		{"box n r1, clo r2 n, n n", "r0", 2, "0 1 2"},
		{"black box r1 n, grey clo n r2, n n", "r0", 2, "0 1 2"},
		// numbers, not texts, are compared
		{"n n, n n, r11 n, n n, n n, n n, n n, n n, n n, n n, r11 n, n n", "r10 r2", 11, "2 11"},
		// words that are no references lie between
		{"s2 r1, -1 r2, n n", "5 r0", 2, "0 1 2"},
		{"r2 -1, n n, s1 r1", "5 r0", 1, "0 2 1"},
	}
}

func TestPaths(t *testing.T) {
	for _, row := range pathRows() {
		leads(t, heapOf(row.heap), row.to, wordsOf(row.roots), numbersOf(row.way))
	}
}
