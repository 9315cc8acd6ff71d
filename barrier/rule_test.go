package barrier_test

import (
	"testing"

	"dapple/api"
)

// TestSourcesOfEachSort: each by itself, and what is none.
func TestSourcesOfEachSort(t *testing.T) {
	for _, c := range []struct {
		name           string
		v              api.View
		guarded, isFor string
	}{
		{"a grey cell's A", viewOf("n n, grey r0 n", ""), "0", "0"},
		{"a grey cell's B", viewOf("n n, grey n r0", ""), "0", "0"},
		{"a grey box", viewOf("n n, grey box r0 n", ""), "0", "0"},
		{"a grey closure", viewOf("n n, grey clo 0 r0", ""), "0", "0"},
		{"a grey cell that is free", viewOf("n n, grey free r0 r0", ""), "", ""},
		{"a black cell", viewOf("n n, black r0 r0", ""), "", ""},
		{"a white cell", viewOf("n n, r0 r0", ""), "", ""},
		{"a global ahead", viewOf("n n", "r0"), "0", "0"},
		{"a global at Laid", viewOf("n n", "n | r0 n"), "0", "0"},
		{"a global behind the one at Laid", viewOf("n n", "n | n r0"), "0", "0"},
		{"a global that has been laid", viewOf("n n", "n r0 | n"), "", ""},
		{"the last one that has been laid", viewOf("n n", "n r0 |"), "", ""},
		{"a lane", viewOf("n n", "", "r0"), "0", ""},
		{"a lane's last Root", viewOf("n n", "", "n 5", "n s0 r0"), "0", ""},
		{"a lane that is Scanned", viewOf("n n", "", "s: r0"), "", ""},
		{"a lane that has Ended", viewOf("n n", "", "e: r0"), "0", "0"},
		{"a lane that is Scanned and has Ended", viewOf("n n", "", "se: r0"), "", ""},
		{"nothing", viewOf("n n", ""), "", ""},
		{"numbers", viewOf("n n, grey 0 s0", "0 s0 p1", "0 s0 p1"), "", ""},
	} {
		t.Run(c.name, func(t *testing.T) {
			for _, p := range []api.Phase{api.PhaseIdle, api.PhaseRoots, api.PhaseMark, api.PhaseSweep} {
				c.v.Phase = p
				guards(t, c.v, c.guarded, c.isFor)
			}
		})
	}
}

// TestGlobalsByLaid: of four that name cells of their own, those from Laid on guard them.
func TestGlobalsByLaid(t *testing.T) {
	want := []string{"0 1 2 3", "1 2 3", "2 3", "3", ""}
	for laid, cells := range want {
		v := viewOf("n n, n n, n n, n n", "r0 r1 r2 r3")
		v.Laid = laid
		guards(t, v, cells, cells)
		if laid == 0 {
			holds(t, v)
		} else {
			breaks(t, v, 0)
		}
	}
}

// TestOnlyWhiteCellsAreGuarded: others that a source names are not, nor what hangs on them.
func TestOnlyWhiteCellsAreGuarded(t *testing.T) {
	for _, head := range []string{"grey", "black", "free", "grey free", "black free"} {
		guards(t, viewOf(head+" n n", "r0", "r0", "e: r0"), "", "")
	}
	guards(t, viewOf("black r1 n, n n", "r0", "r0", "e: r0"), "", "")
	guards(t, viewOf("free r1 n, n n", "r0", "r0", "e: r0"), "", "")
	guards(t, viewOf("grey free r1 n, n n", "r0", "r0", "e: r0"), "", "")
	// A grey cell is a source itself, whoever names it.
	guards(t, viewOf("grey r1 n, n n", ""), "1", "1")
	guards(t, viewOf("grey r1 n, n n", "", "r0"), "1", "1")
}

// TestChains: by A, by B, up and down, over cells of each kind; a cell that is not white ends them.
func TestChains(t *testing.T) {
	guards(t, viewOf("r1 n, n r2, box r3 n, clo 0 r4, n n", "r0"), "0 1 2 3 4", "0 1 2 3 4")
	guards(t, viewOf("n n, r0 n, n r1, r2 n, 1 r3", "", "r4"), "0 1 2 3 4", "")
	guards(t, viewOf("r1 n, r2 n, black r3 n, r4 n, n n", "r0"), "0 1", "0 1")
	guards(t, viewOf("r1 n, r2 n, free r3 n, r4 n, n n", "r0"), "0 1", "0 1")
	guards(t, viewOf("r1 n, r2 n, grey r3 n, r4 n, n n", "", "r0"), "0 1 3 4", "3 4")
	// Two ways to one cell, one of which is cut.
	guards(t, viewOf("r1 r2, r3 n, black r3 n, n n", "r0"), "0 1 3", "0 1 3")
	guards(t, viewOf("r1 r2, free r3 n, black r3 n, n n", "r0"), "0", "0")
}

// TestRings: they end, and guard nobody by themselves.
func TestRings(t *testing.T) {
	guards(t, viewOf("r0 r0", ""), "", "")
	guards(t, viewOf("r0 r0", "r0"), "0", "0")
	guards(t, viewOf("r1 n, r2 n, r0 n", ""), "", "")
	guards(t, viewOf("r1 n, r2 n, r0 n", "", "r1"), "0 1 2", "")
	guards(t, viewOf("r1 n, grey r2 n, r0 n", ""), "0 2", "0 2")
	guards(t, viewOf("r1 r1, r0 r0, r0 r1", "", "r2 r2 r2", "r2"), "0 1 2", "")
	breaks(t, viewOf("r1 n, r2 n, r0 n", "", "s: r2"), 0)
	holds(t, viewOf("r1 n, r2 n, r0 n", ""))
	holds(t, viewOf("r1 n, r2 n, r0 n", "", "r2"))
}

// TestGuardedNotWell: two sources, of which one counts for both.
func TestGuardedNotWell(t *testing.T) {
	guards(t, viewOf("r2 n, r2 n, n n, n n", "r1", "r0 r3"), "0 1 2 3", "1 2")
	guards(t, viewOf("r1 n, r2 n, n n", "", "r0", "e: r1"), "0 1 2", "1 2")
	guards(t, viewOf("r1 n, r2 n, n n", "", "r0", "se: r1"), "0 1 2", "")
	guards(t, viewOf("r1 n, r2 n, n n, grey n r2", "", "r0"), "0 1 2", "2")
}

// TestLiveAndNotGuarded: the first sentence by itself: a white cell behind another one that is white, and not guarded.
func TestLiveAndNotGuarded(t *testing.T) {
	breaks(t, viewOf("n n", "r0 |"), 0)
	breaks(t, viewOf("n n", "", "s: r0"), 0)
	breaks(t, viewOf("n n", "", "se: r0"), 0)
	breaks(t, viewOf("n n, r0 n, black r1 n", "", "s: r2"), 0)
	// 2 breaks the second sentence, and is greater than 1, which breaks the first one alone.
	breaks(t, viewOf("black r2 n, n n, r1 n", "", "r0"), 1)
	holds(t, viewOf("n n, r0 n", "", "s: n 5"))
	holds(t, viewOf("n n, r0 n", ""))
}

// TestNamedAndNotWell: the second sentence by itself: it is guarded by a lane that runs, or not live at all.
func TestNamedAndNotWell(t *testing.T) {
	// guarded by the lane, named by each sort of what has been passed
	breaks(t, viewOf("n n, black r0 n", "", "r0"), 0)
	breaks(t, viewOf("n n, black n r0", "", "r0"), 0)
	breaks(t, viewOf("n n, black box r0 n", "", "r0"), 0)
	breaks(t, viewOf("n n", "r0 |", "r0"), 0)
	breaks(t, viewOf("n n", "n r0 | n", "r0"), 0)
	breaks(t, viewOf("n n", "", "s: r0", "r0"), 0)
	breaks(t, viewOf("n n", "", "se: n r0", "r0"), 0)
	// not live: a black cell that nobody reaches names it
	breaks(t, viewOf("n n, black r0 n", ""), 0)
	breaks(t, viewOf("n n, black r0 n", "n", "n"), 0)
	// well guarded by each sort of source
	for _, v := range []api.View{
		viewOf("n n, black r0 n, grey r0 n", "r0 | n", "s: r0", "r0"),
		viewOf("n n, black r0 n", "r0 | r0", "s: r0", "r0"),
		viewOf("n n, black r0 n", "r0 | n", "s: r0", "r0", "e: r0"),
	} {
		guards(t, v, "0", "0")
		holds(t, v)
	}
	v := viewOf("n n, black r0 n, r0 n", "r0 | r2", "s: r0")
	guards(t, v, "0 2", "0 2")
	holds(t, v)
	// named by what is free, or white: that is not asked
	holds(t, viewOf("n n, black free r0 r0", "", "r0"))
	holds(t, viewOf("n n, r0 n", "", "r0"))
}

// TestOnlyWhatIsNamedMustBeWell: what hangs on a cell that is named must be guarded, and is then well.
func TestOnlyWhatIsNamedMustBeWell(t *testing.T) {
	v := viewOf("r1 n, n n, black n n", "", "r0 r2")
	guards(t, v, "0 1", "")
	holds(t, v)
	v = viewOf("r1 n, n n, black r0 n", "r0", "r1 r2")
	guards(t, v, "0 1", "0 1")
	holds(t, v)
}

// TestOthersAreNotAsked: black, grey and free cells that nobody guards are never wrong.
func TestOthersAreNotAsked(t *testing.T) {
	for _, head := range []string{"grey", "black", "free", "grey free", "black free"} {
		holds(t, viewOf(head+" n n, black r0 n", "r0 |", "s: r0", "se: r0"))
	}
}

// TestLiveIsAsInChapter10: over cells of all colours, but not over free ones.
func TestLiveIsAsInChapter10(t *testing.T) {
	// 3 hangs on grey 2 behind black 1: guarded by it.
	holds(t, viewOf("n n, black r2 n, grey r3 n, n n", "", "s: r1"))
	// 0 is reached over a free cell alone: it is dead.
	holds(t, viewOf("n n, free r0 n", "r1 |", "s: r1"))
	// Over a white one that is well guarded: so is it.
	holds(t, viewOf("n n, r0 n, grey r1 n", "", "s: r1"))
	// The black cell behind the free one is not live, but names a white cell.
	breaks(t, viewOf("n n, black r0 n, free r1 n", "", "s: r2"), 0)
	// A Root may name a free cell.
	holds(t, viewOf("free x0 x0", "r0 |", "s: r0"))
}

// TestTheLeastOfSeveral: whichever sentence each of them breaks.
func TestTheLeastOfSeveral(t *testing.T) {
	breaks(t, viewOf("n n, n n, n n, n n", "", "s: r3 r2 r1"), 1)
	breaks(t, viewOf("n n, n n, n n, n n", "r3 |", "s: r2"), 2)
	breaks(t, viewOf("n n, n n, n n, black r1 n", "r2 |", "r1 r3"), 1)
	breaks(t, viewOf("n n, n n, black r1 r0, n n", "r3 |", "r1 r0"), 0)
	breaks(t, viewOf("black n n, free r1 n, grey n n, n n, n n", "r4 r3 |"), 3)
	breaks(t, viewOf("r1 n, r2 n, r3 n, n n", "", "s: r3", "s: r2"), 2)
	holds(t, viewOf("r1 n, r2 n, r3 n, n n", "r0", "s: r3", "s: r2", "n"))
}

// TestHoldsInEachPhase: only while roots are laid and cells marked is anything asked.
func TestHoldsInEachPhase(t *testing.T) {
	for _, v := range inEachPhase(func() api.View { return viewOf("n n, n n, black r1 n", "n |", "s: r2", "r1") }) {
		guards(t, v, "1", "")
		if v.Phase == api.PhaseRoots || v.Phase == api.PhaseMark {
			breaks(t, v, 1)
		} else {
			holds(t, v)
		}
	}
}

// TestSweptDoesNotMatter: nor does the order in which anything stands.
func TestSweptDoesNotMatter(t *testing.T) {
	for swept := range 4 {
		v := viewOf("n n, n n, black r1 n", "n |", "s: r2", "r1")
		v.Swept = swept
		guards(t, v, "1", "")
		breaks(t, v, 1)
		v = viewOf("r1 n, n n, grey r0 n", "", "s: r1")
		v.Swept = swept
		guards(t, v, "0 1", "0 1")
		holds(t, v)
	}
}
