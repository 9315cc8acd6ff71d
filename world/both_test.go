package world_test

import (
	"math/rand"
	"testing"

	"dapple/api"
	"dapple/world"
)

// meeting is what a step met: what it was, in which phase, whether its thread was scanned, of which colour the cells were
// that its words named (none, if they named none), and whether it did it.
type meeting struct {
	what      api.What
	phase     api.Phase
	scanned   bool
	old, next api.Colour
	did       bool
}

// none is no colour.
const none api.Colour = 9

// colourOf is the colour of the cell that a word names.
func colourOf(h []api.Cell, w api.Word) api.Colour {
	if !isRef(w) {
		return none
	}
	return h[cellOf(w)].Colour
}

// met counts what drawn worlds met, so that a test can see that they met it all.
type met struct {
	steps    int
	meetings map[meeting]int
	errs     map[api.Errno]int
	whats    map[api.What]int
}

func newMet() *met {
	return &met{meetings: map[meeting]int{}, errs: map[api.Errno]int{}, whats: map[api.What]int{}}
}

// note counts a step, by what was seen ahead of it.
func (m *met) note(v api.View, e api.Event) {
	m.steps++
	m.whats[e.What]++
	m.errs[e.Err]++
	x := meeting{what: e.What, phase: v.Phase, scanned: true, old: none, next: none, did: e.Yes}
	if e.Actor > 0 {
		x.scanned = v.Lanes[e.Actor-1].Scanned
		x.old, x.next = colourOf(v.Cells, e.Old), colourOf(v.Cells, e.New)
	}
	m.meetings[x]++
}

// both is a world, and the same one as the chapters tell it.
type both struct {
	*testing.T
	w *world.World
	p *plain
}

func newBoth(t *testing.T, c api.Config, code api.Code) both {
	t.Helper()
	w, e := world.New(c, code)
	if e != api.OK {
		t.Fatal(e)
	}
	return both{t, w, newPlain(c, code)}
}

// makes makes a move of both, which must answer the same, and look the same behind it.
func (b both) makes(x move, m *met) bool {
	b.Helper()
	ahead := b.p.View()
	got, want := made(b.w, x), made(b.p, x)
	if !got.same(want) {
		b.Errorf("%v: %+v, not %+v", x, got, want)
		return false
	}
	if s := seen(b.w).differs(seen(b.p)); s != "" {
		b.Errorf("behind %v (%+v): %s", x, got, s)
		return false
	}
	if got.yes {
		m.note(ahead, got.event)
	}
	return true
}

// drawnRun makes moves that are drawn from a seed.
func drawnRun(t *testing.T, seed int64, moves int, m *met) bool {
	t.Helper()
	r := rand.New(rand.NewSource(seed))
	c, code := drawnWorld(r)
	b := newBoth(t, c, code)
	from := newMover(r)
	for range moves {
		if !b.makes(from.next(b.p), m) {
			return false
		}
		if isOver(b.p) && r.Intn(20) == 0 {
			break
		}
	}
	return true
}

// TestDrawnWorlds: drawn code under drawn picks does what the chapters say, step by step, and all that can be seen is what they
// say, behind each.
func TestDrawnWorlds(t *testing.T) {
	t.Parallel()
	m := newMet()
	for seed := range int64(1500) {
		if !drawnRun(t, seed, 250, m) {
			t.Fatal("seed", seed)
		}
	}
	for what := api.StepLoad; what <= api.StepFinish; what++ {
		if m.whats[what] < 40 {
			t.Errorf("%d steps of %d", m.whats[what], what)
		}
	}
	for _, e := range []api.Errno{api.ErrNoCells, api.ErrVMArgs, api.ErrVMRaised, api.ErrVMUnset, api.ErrWordKind, api.ErrLocksNone, api.ErrLocksTwice, api.ErrLocksNot, api.ErrLocksSelf, api.ErrLocksMuch} {
		if m.errs[e] < 5 {
			t.Errorf("%d ends by %d", m.errs[e], e)
		}
	}
	// Each step of a thread is met in each phase, ahead of its being scanned and behind it.
	for what := api.StepLoad; what <= api.StepEnd; what++ {
		for _, at := range []meeting{{phase: api.PhaseIdle, scanned: true}, {phase: api.PhaseRoots}, {phase: api.PhaseRoots, scanned: true}, {phase: api.PhaseMark, scanned: true}, {phase: api.PhaseSweep, scanned: true}} {
			if n := m.count(what, at.phase, at.scanned); what != api.StepAck && n < 2 {
				t.Errorf("%d steps of %d in phase %d, scanned %t", n, what, at.phase, at.scanned)
			}
		}
	}
}

// count is how often a step was met there.
func (m *met) count(what api.What, p api.Phase, scanned bool) int {
	out := 0
	for x, n := range m.meetings {
		if x.what == what && x.phase == p && x.scanned == scanned {
			out += n
		}
	}
	return out
}

// FuzzWorlds: as TestDrawnWorlds, from any seed.
func FuzzWorlds(f *testing.F) {
	for seed := range int64(20) {
		f.Add(-1 - seed)
	}
	f.Fuzz(func(t *testing.T, seed int64) { drawnRun(t, seed, 400, newMet()) })
}
