package cycle_test

import (
	"math"
	"math/rand"
	"slices"
	"strings"
	"testing"

	"dapple/api"
	"dapple/cycle"
)

// The chapter once more, in the plainest way: sentences that may be broken, and rows of which the first counts that applies.

// sentence is one of those that say when something may be, or fits.
type sentence struct {
	says  string
	holds bool
}

// maySay is 'It MAY BE', sentence by sentence.
func maySay(s api.Cycle) []sentence {
	phase := letter(s.Phase)
	in := func(letters string) bool { return strings.Contains(letters, phase) }
	return []sentence{
		{"there is such a Phase", in("IRMS")},
		{"Global is not below 0", s.Global >= 0},
		{"Swept is not below 0", s.Swept >= 0},
		{"Freed is not below 0", s.Freed >= 0},
		{"Begun is not below 0", s.Begun >= 0},
		{"Freed is not above Swept", s.Freed <= s.Swept},
		{"Begun is below 2^63 - 1", s.Begun < 1<<63-1},
		{"Asked only in PhaseIdle", !s.Asked || in("I")},
		{"in PhaseIdle Global is 0", !in("I") || s.Global == 0},
		{"in PhaseIdle Swept is 0", !in("I") || s.Swept == 0},
		{"in PhaseIdle Freed is 0", !in("I") || s.Freed == 0},
		{"in PhaseRoots Swept is 0", !in("R") || s.Swept == 0},
		{"in PhaseRoots Freed is 0", !in("R") || s.Freed == 0},
		{"in PhaseMark Global is 0", !in("M") || s.Global == 0},
		{"in PhaseMark Swept is 0", !in("M") || s.Swept == 0},
		{"in PhaseMark Freed is 0", !in("M") || s.Freed == 0},
		{"in PhaseSweep Global is 0", !in("S") || s.Global == 0},
	}
}

// fitSay is when what is around FITS, sentence by sentence.
func fitSay(s api.Cycle, a api.Around) []sentence {
	return []sentence{
		{"Cells is not below 0", a.Cells >= 0},
		{"Globals is not below 0", a.Globals >= 0},
		{"Thread is not below 0", a.Thread >= 0},
		{"Global is not above Globals", s.Global <= a.Globals},
		{"Swept is not above Cells", s.Swept <= a.Cells},
	}
}

// broken are the sentences that do not hold.
func broken(l []sentence) []string {
	var out []string
	for _, x := range l {
		if !x.holds {
			out = append(out, x.says)
		}
	}
	return out
}

// letter is a Phase's first one; of one that there is not it is `-`.
func letter(p api.Phase) string {
	if int(p) < 4 {
		return "IRMS"[p : p+1]
	}
	return "-"
}

// plainBegin is what the chapter says of Begin.
func plainBegin(s api.Cycle) (api.Cycle, api.Errno) {
	if len(broken(maySay(s))) != 0 {
		return api.Cycle{}, 171
	}
	if s.Asked || s.Phase != 0 {
		return api.Cycle{}, 170
	}
	return api.Cycle{Phase: s.Phase, Global: s.Global, Swept: s.Swept, Freed: s.Freed, Begun: s.Begun, Asked: true}, 0
}

// plainNext is what the chapter says of Next.
func plainNext(s api.Cycle, a api.Around) api.Do {
	if len(broken(maySay(s))) != 0 || len(broken(fitSay(s, a))) != 0 {
		return api.Do{}
	}
	some := a.Thread != 0
	for _, row := range []struct {
		phases string
		when   bool
		do     api.Do
	}{
		{"I", s.Asked, api.Do{What: api.StepBegin}},
		{"I", true, api.Do{}},
		{"R", s.Global < a.Globals, api.Do{What: api.StepRoot, Global: s.Global}},
		{"R", some && a.Still, api.Do{What: api.StepScanThread, Thread: a.Thread}},
		{"R", some && a.Told, api.Do{}},
		{"R", some, api.Do{What: api.StepAsk, Thread: a.Thread}},
		{"RM", a.Grey, api.Do{What: api.StepScan}},
		{"RM", true, api.Do{What: api.StepCheck}},
		{"S", s.Swept < a.Cells, api.Do{What: api.StepSweep, Cell: s.Swept}},
		{"S", true, api.Do{What: api.StepFinish}},
	} {
		if row.when && strings.Contains(row.phases, letter(s.Phase)) {
			return row.do
		}
	}
	panic("no row")
}

// plainStep is what the chapter says of Step.
func plainStep(s api.Cycle, a api.Around, back bool) (api.Cycle, api.Errno) {
	if len(broken(maySay(s))) != 0 || len(broken(fitSay(s, a))) != 0 {
		return api.Cycle{}, 171
	}
	what := plainNext(s, a).What
	if what == 0 {
		return api.Cycle{}, 170
	}
	is := func(w api.What) int {
		if what == w {
			return 1
		}
		return 0
	}
	if phase, ok := map[api.What]api.Phase{
		api.StepBegin: api.PhaseRoots, api.StepScan: api.PhaseMark, api.StepCheck: api.PhaseSweep, api.StepFinish: api.PhaseIdle,
	}[what]; ok {
		s.Phase = phase
	}
	s.Begun += is(api.StepBegin)
	s.Global += is(api.StepRoot)
	s.Swept += is(api.StepSweep)
	if back {
		s.Freed += is(api.StepSweep)
	}
	s.Asked = s.Asked && what != api.StepBegin
	if s.Phase != api.PhaseRoots {
		s.Global = 0
	}
	if s.Phase != api.PhaseSweep {
		s.Swept, s.Freed = 0, 0
	}
	return s, 0
}

// checkBegin holds Begin against the chapter.
func checkBegin(t *testing.T, s api.Cycle) {
	t.Helper()
	want, e := plainBegin(s)
	if got, of := cycle.Begin(s); got != want || of != e {
		t.Fatalf("Begin(%+v): %+v, %d, not %+v, %d", s, got, of, want, e)
	}
}

// checkStep holds Next and both Steps against the chapter.
func checkStep(t *testing.T, s api.Cycle, a api.Around) {
	t.Helper()
	if got, want := cycle.Next(s, a), plainNext(s, a); got != want {
		t.Fatalf("Next(%+v, %+v): %+v, not %+v", s, a, got, want)
	}
	for _, back := range []bool{false, true} {
		want, e := plainStep(s, a, back)
		if got, of := cycle.Step(s, a, back); got != want || of != e {
			t.Fatalf("Step(%+v, %+v, %t): %+v, %d, not %+v, %d", s, a, back, got, of, want, e)
		}
	}
}

// aroundSome is what may be around, at its bounds and one beyond: every mix of it.
func aroundSome() []api.Around {
	var out []api.Around
	numbers := []int{math.MinInt, -1, 0, 1, 2, 3, math.MaxInt}
	for _, cells := range numbers {
		for _, globals := range numbers {
			for _, thread := range []int{math.MinInt, -1, 0, 1, 8, math.MaxInt} {
				flags(func(still, told, grey bool) {
					out = append(out, api.Around{Cells: cells, Globals: globals, Thread: thread, Still: still, Told: told, Grey: grey})
				})
			}
		}
	}
	return out
}

// someCycles is where the collector may be, and may not: every mix of numbers at their bounds and one beyond.
func someCycles(do func(s api.Cycle)) {
	numbers := []int{math.MinInt, -1, 0, 1, 2, 3, math.MaxInt}
	for _, phase := range []api.Phase{0, 1, 2, 3, 4, 5, 127, 128, 255} {
		for _, begun := range []int{math.MinInt, -1, 0, 1, math.MaxInt - 2, math.MaxInt - 1, math.MaxInt} {
			for _, global := range numbers {
				for _, swept := range numbers {
					for _, freed := range numbers {
						do(api.Cycle{Phase: phase, Global: global, Swept: swept, Freed: freed, Begun: begun})
						do(api.Cycle{Phase: phase, Global: global, Swept: swept, Freed: freed, Begun: begun, Asked: true})
					}
				}
			}
		}
	}
}

// TestAllThereCanBe: every mix of where the collector is; of those that may be with every mix of what is around, of others with some.
func TestAllThereCanBe(t *testing.T) {
	around := aroundSome()
	few := []api.Around{{}, {Cells: 3, Globals: 3, Thread: 1}, {Cells: math.MaxInt, Globals: math.MaxInt, Grey: true}, {Cells: math.MaxInt, Globals: math.MaxInt, Thread: 2, Still: true}, {Cells: -1, Globals: -1, Thread: -1}, {Thread: 1, Told: true}}
	may, not, alone := 0, 0, map[string]int{}
	whats := map[api.What]int{}
	someCycles(func(s api.Cycle) {
		checkBegin(t, s)
		of := few
		wrong := broken(maySay(s))
		switch len(wrong) {
		case 0:
			of = around
			may++
		case 1:
			alone[wrong[0]]++
			not++
		default:
			not++
		}
		for _, a := range of {
			checkStep(t, s, a)
			if wrong := slices.Concat(wrong, broken(fitSay(s, a))); len(wrong) == 1 {
				alone[wrong[0]]++
			}
			whats[plainNext(s, a).What]++
		}
	})
	// Of four Begun that may be: 2 in PhaseIdle, 5 Globals in PhaseRoots, 1 in PhaseMark, 15 Swept and Freed in PhaseSweep.
	if may != 4*(2+5+1+15) || not < 10000 {
		t.Errorf("%d may be, %d may not", may, not)
	}
	for _, what := range []api.What{0, api.StepBegin, api.StepRoot, api.StepAsk, api.StepScanThread, api.StepScan, api.StepCheck, api.StepSweep, api.StepFinish} {
		if whats[what] == 0 {
			t.Errorf("no step %d", what)
		}
	}
	// Those that stand alone when they are broken: the other ones are broken only together with another one.
	for _, says := range []string{
		"there is such a Phase", "Global is not below 0", "Begun is not below 0", "Begun is below 2^63 - 1", "Asked only in PhaseIdle", "Freed is not below 0", "Freed is not above Swept",
		"in PhaseIdle Global is 0", "in PhaseIdle Swept is 0", "in PhaseRoots Swept is 0", "in PhaseMark Global is 0", "in PhaseMark Swept is 0", "in PhaseSweep Global is 0",
		"Thread is not below 0", "Global is not above Globals", "Swept is not above Cells",
	} {
		if alone[says] == 0 {
			t.Errorf("%q is never broken alone", says)
		}
	}
}

// drawnNumber is small, or close to some bound.
func drawnNumber(r *rand.Rand) int {
	switch r.Intn(8) {
	case 0:
		return -1 - r.Intn(2)
	case 1:
		return math.MaxInt - r.Intn(4)
	case 2:
		return int(r.Uint64())
	case 3:
		return math.MinInt + r.Intn(2)
	}
	return r.Intn(6)
}

// mended is a Cycle of which what its Phase does not have is 0: most drawn ones would be nowhere, else.
func mended(s api.Cycle) api.Cycle {
	s.Phase %= 4
	if s.Phase != api.PhaseRoots {
		s.Global = 0
	}
	if s.Phase != api.PhaseSweep {
		s.Swept, s.Freed = 0, 0
	}
	s.Freed = min(s.Freed, s.Swept)
	s.Asked = s.Asked && s.Phase == api.PhaseIdle
	return s
}

// TestDrawn: drawn numbers, of which most may be.
func TestDrawn(t *testing.T) {
	r := rand.New(rand.NewSource(171))
	fit := 0
	for i := range 300000 {
		s := api.Cycle{Phase: api.Phase(r.Intn(256)), Global: drawnNumber(r), Swept: drawnNumber(r), Freed: drawnNumber(r), Begun: drawnNumber(r), Asked: r.Intn(2) == 0}
		a := api.Around{Cells: drawnNumber(r), Globals: drawnNumber(r), Thread: drawnNumber(r), Still: r.Intn(2) == 0, Told: r.Intn(2) == 0, Grey: r.Intn(2) == 0}
		if i%4 != 0 {
			s = mended(s)
		}
		checkBegin(t, s)
		checkStep(t, s, a)
		if len(broken(maySay(s)))+len(broken(fitSay(s, a))) == 0 {
			fit++
		}
	}
	if fit < 20000 {
		t.Errorf("%d fit", fit)
	}
}

// plainMost is what the chapter says of Most.
func plainMost(cells, globals, threads int) int {
	if min(cells, globals, threads) < 0 || max(cells, globals, threads) > 2147483647 {
		return 0
	}
	return cells + cells + globals + threads + 3
}

// TestDrawnMost: near its bounds.
func TestDrawnMost(t *testing.T) {
	r := rand.New(rand.NewSource(172))
	draw := func() int {
		switch r.Intn(12) {
		case 0:
			return drawnNumber(r)
		case 1, 2, 3:
			return math.MaxInt32 - 2 + r.Intn(4)
		case 4, 5, 6:
			return int(r.Int31())
		}
		return r.Intn(5)
	}
	for range 200000 {
		cells, globals, threads := draw(), draw(), draw()
		if got, want := cycle.Most(cells, globals, threads), plainMost(cells, globals, threads); got != want {
			t.Fatalf("Most(%d, %d, %d): %d, not %d", cells, globals, threads, got, want)
		}
	}
}

func FuzzPlain(f *testing.F) {
	f.Add(uint8(0), 0, 0, 0, 0, true, 4, 2, 1, uint8(0))
	f.Add(uint8(1), 2, 0, 0, 1, false, 4, 2, 3, uint8(1))
	f.Add(uint8(2), 0, 0, 0, 1, false, 4, 2, 0, uint8(4))
	f.Add(uint8(3), 0, 1, 1, 1, false, 2, 2, 0, uint8(0))
	f.Fuzz(func(t *testing.T, phase uint8, global, swept, freed, begun int, asked bool, cells, globals, thread int, mix uint8) {
		s := api.Cycle{Phase: api.Phase(phase), Global: global, Swept: swept, Freed: freed, Begun: begun, Asked: asked}
		a := api.Around{Cells: cells, Globals: globals, Thread: thread, Still: mix&1 != 0, Told: mix&2 != 0, Grey: mix&4 != 0}
		checkBegin(t, s)
		checkStep(t, s, a)
		checkBegin(t, mended(s))
		checkStep(t, mended(s), a)
		if got, want := cycle.Most(cells, globals, thread), plainMost(cells, globals, thread); got != want {
			t.Fatalf("Most(%d, %d, %d): %d, not %d", cells, globals, thread, got, want)
		}
	})
}
