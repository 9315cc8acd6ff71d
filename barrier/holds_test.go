package barrier_test

import (
	"math/rand"
	"slices"
	"testing"

	"dapple/api"
	"dapple/barrier"
)

// cloned is a view in memory of its own.
func cloned(v api.View) api.View {
	v.Cells, v.Grey, v.Globals, v.Lanes = slices.Clone(v.Cells), slices.Clone(v.Grey), slices.Clone(v.Globals), slices.Clone(v.Lanes)
	for i := range v.Lanes {
		v.Lanes[i].Roots = slices.Clone(v.Lanes[i].Roots)
	}
	return v
}

// greyed makes cells grey.
func greyed(v *api.View, cells []int) {
	for _, cell := range cells {
		v.Cells[cell].Colour = api.Grey
	}
	v.Grey = append(v.Grey, cells...)
}

// step is one of the things that the chapter says to keep the rule. Change is all of it but what is shaded.
type step struct {
	name   string
	change func(v *api.View)
	shaded []int
}

// made is the view that comes of a step.
func (s step) made(v api.View) api.View {
	v = s.bare(v)
	greyed(&v, s.shaded)
	return v
}

// bare is what comes of a step that shades nothing.
func (s step) bare(v api.View) api.View {
	v = cloned(v)
	s.change(&v)
	return v
}

// roots is a step after which a lane has these Roots.
func roots(name string, lane int, l []api.Word) step {
	return step{name: name, change: func(v *api.View) { v.Lanes[lane].Roots = slices.Clone(l) }}
}

// more is a step after which a lane has one Root more.
func more(name string, lane int, w api.Word) step {
	return step{name: name, change: func(v *api.View) { v.Lanes[lane].Roots = append(v.Lanes[lane].Roots, w) }}
}

// subsets are all lists that have some of a list.
func subsets(l []api.Word) [][]api.Word {
	var out [][]api.Word
	for set := range 1 << len(l) {
		var some []api.Word
		for i, w := range l {
			if set>>i&1 == 1 {
				some = append(some, w)
			}
		}
		out = append(out, some)
	}
	return out
}

// usedCellsOf are the cells that are not free, and that one of the words names.
func usedCellsOf(v api.View, l []api.Word) []int {
	var out []int
	for _, w := range l {
		if cell := plainCell(w, len(v.Cells)); cell >= 0 && v.Cells[cell].Kind != api.KindFree && !slices.Contains(out, cell) {
			out = append(out, cell)
		}
	}
	return out
}

// wordsOfLane are those that a lane may lay: its own, and ones that are no references.
func wordsOfLane(l api.Lane) []api.Word { return append(wordsOf("n 5"), l.Roots...) }

// looks: into cells and globals.
func looks(v api.View, lane int) []step {
	var out []step
	for _, cell := range usedCellsOf(v, v.Lanes[lane].Roots) {
		out = append(out, more("look into a cell", lane, v.Cells[cell].A), more("look into a cell", lane, v.Cells[cell].B))
	}
	for _, w := range v.Globals {
		out = append(out, more("look into a global", lane, w))
	}
	return out
}

// stores: into cells and globals.
func stores(v api.View, lane int) []step {
	var out []step
	l := v.Lanes[lane]
	for _, w := range wordsOfLane(l) {
		for _, cell := range usedCellsOf(v, l.Roots) {
			c := v.Cells[cell]
			out = append(out,
				step{"store into A", func(v *api.View) { v.Cells[cell].A = w }, barrier.Store(v.Phase, l.Scanned, c.A, w, v.Cells)},
				step{"store into B", func(v *api.View) { v.Cells[cell].B = w }, barrier.Store(v.Phase, l.Scanned, c.B, w, v.Cells)})
		}
		for i, old := range v.Globals {
			out = append(out, step{"store into a global", func(v *api.View) { v.Globals[i] = w }, barrier.Store(v.Phase, l.Scanned, old, w, v.Cells)})
		}
	}
	return out
}

// fills: of free cells.
func fills(v api.View, lane int) []step {
	var out []step
	l := v.Lanes[lane]
	for cell, c := range v.Cells {
		if c.Kind != api.KindFree {
			continue
		}
		for i, a := range wordsOfLane(l) {
			for _, b := range wordsOfLane(l) {
				filled := api.Cell{Kind: api.Kind(1 + i%3), Colour: barrier.Birth(v.Phase, cell, v.Swept), A: a, B: b}
				out = append(out, step{"fill", func(v *api.View) {
					v.Cells[cell] = filled
					v.Lanes[lane].Roots = append(v.Lanes[lane].Roots, ref(cell))
				}, barrier.Fill(v.Phase, l.Scanned, a, b, v.Cells)})
			}
		}
	}
	return out
}

// rest are a lane's other steps: it drops Roots, ends, begins another one, takes what an ended one has left.
func rest(v api.View, lane int) []step {
	var out []step
	l := v.Lanes[lane]
	for _, some := range subsets(l.Roots) {
		comes := func(v *api.View) {
			v.Lanes = append(v.Lanes, api.Lane{Roots: slices.Clone(some), Scanned: l.Scanned})
		}
		out = append(out, roots("drop", lane, some), step{name: "a lane comes", change: comes})
	}
	for _, w := range wordsOfLane(l) {
		out = append(out, step{name: "end", change: func(v *api.View) { v.Lanes[lane] = api.Lane{Roots: []api.Word{w}, Scanned: l.Scanned, Ended: true} }})
	}
	for _, other := range v.Lanes {
		for _, w := range other.Roots {
			if other.Ended {
				out = append(out, more("take", lane, w))
			}
		}
	}
	return out
}

// collectorSteps are the collector's three.
func collectorSteps(v api.View) []step {
	var out []step
	if v.Laid < len(v.Globals) {
		out = append(out, step{"lay a global", func(v *api.View) { v.Laid++ }, plainShade(v.Cells, v.Globals[v.Laid])})
	}
	for i, l := range v.Lanes {
		out = append(out, step{"scan a lane", func(v *api.View) { v.Lanes[i].Scanned = true }, plainShade(v.Cells, l.Roots...)})
	}
	for i, cell := range v.Grey {
		out = append(out, step{"look into a grey cell", func(v *api.View) {
			v.Cells[cell].Colour = api.Black
			v.Grey = slices.Delete(v.Grey, i, i+1)
		}, plainShade(v.Cells, v.Cells[cell].A, v.Cells[cell].B)})
	}
	return out
}

// threadSteps are those of all lanes that have not ended.
func threadSteps(v api.View) []step {
	var out []step
	for i, l := range v.Lanes {
		if !l.Ended {
			out = slices.Concat(out, looks(v, i), stores(v, i), fills(v, i), rest(v, i))
		}
	}
	return out
}

// keeper goes through steps, and counts by their names how often they were made, and how often the rule would have broken had they shaded nothing.
type keeper struct {
	*testing.T
	many, sharp map[string]int
}

func newKeeper(t *testing.T) keeper {
	return keeper{t, map[string]int{}, map[string]int{}}
}

// keeps: each of the steps makes a view that Holds out of one that does.
func (k keeper) keeps(v api.View, steps []step) {
	k.Helper()
	for _, s := range steps {
		next := s.made(v)
		if ok, cell, e := barrier.Holds(next); !ok || e != api.OK {
			k.Fatalf("%s, of %s: %v, %d, %d: %s", s.name, told(v), ok, cell, e, told(next))
		}
		k.many[s.name]++
		if len(s.shaded) > 0 {
			if ok, _, _ := barrier.Holds(s.bare(v)); !ok {
				k.sharp[s.name]++
			}
		}
	}
}

// wasFor holds that each sort of step was made at least so often.
func (k keeper) wasFor(least int) {
	k.Helper()
	for _, s := range []string{"look into a cell", "look into a global", "store into A", "store into B", "store into a global", "fill", "drop", "end", "a lane comes", "take", "lay a global", "scan a lane", "look into a grey cell"} {
		if k.many[s] < least {
			k.Errorf("%s: only %d times", s, k.many[s])
		}
	}
	for _, s := range []string{"store into A", "store into B", "store into a global", "fill", "lay a global", "scan a lane", "look into a grey cell"} {
		if k.sharp[s] < least/100 {
			k.Errorf("%s: shading is what kept the rule only %d times", s, k.sharp[s])
		}
	}
}

// isHeld tells whether a view holds.
func isHeld(v api.View) bool {
	ok, _, _ := barrier.Holds(v)
	return ok
}

// eachHeld hands on many drawn views that Hold, in both phases.
func eachHeld(seed int64, many int, do func(r *rand.Rand, v api.View)) {
	r := rand.New(rand.NewSource(seed))
	for many > 0 {
		if v := drawnView(r, 5); isHeld(v) {
			do(r, v)
			many--
		}
	}
}

// TestTheRuleIsKept: by each step of drawn views that Hold.
func TestTheRuleIsKept(t *testing.T) {
	k := newKeeper(t)
	phases := map[api.Phase]int{}
	eachHeld(132, 20000, func(_ *rand.Rand, v api.View) {
		phases[v.Phase]++
		k.keeps(v, threadSteps(v))
		k.keeps(v, collectorSteps(v))
	})
	k.wasFor(10000)
	if phases[api.PhaseRoots] < 5000 || phases[api.PhaseMark] < 5000 {
		t.Errorf("%v", phases)
	}
}

// TestTheRuleIsKeptInAllSmallViews: by each step, in each that Holds.
func TestTheRuleIsKeptInAllSmallViews(t *testing.T) {
	k := newKeeper(t)
	look := func(v api.View) {
		for _, v.Phase = range []api.Phase{api.PhaseRoots, api.PhaseMark} {
			if isHeld(v) {
				k.keeps(v, threadSteps(v))
				k.keeps(v, collectorSteps(v))
			}
		}
	}
	eachSmallView(1, fewCells(wordsOf("n r0"), wordsOf("n r0")), wordsOf("n r0"), 2, look)
	eachSmallView(2, fewCells(wordsOf("n r0 r1"), wordsOf("n r0"))[2:], wordsOf("n r0 r1"), 1, look)
	k.wasFor(3000)
}

// beginning is a view as it is when a cycle begins: all that is not free is white, nothing is laid, nobody scanned.
func beginning(r *rand.Rand) api.View {
	v := drawnView(r, 8)
	v.Phase, v.Swept, v.Laid, v.Grey = api.PhaseRoots, 0, 0, nil
	for i := range v.Cells {
		v.Cells[i].Colour = api.White
	}
	for i := range v.Lanes {
		v.Lanes[i].Scanned = false
	}
	return v
}

// isDone tells whether nothing is grey, all globals are laid, and all lanes Scanned.
func isDone(v api.View) bool {
	return len(v.Grey) == 0 && v.Laid == len(v.Globals) && !slices.ContainsFunc(v.Lanes, func(l api.Lane) bool { return !l.Scanned })
}

// whiteAndLive are the cells that are both, and not free.
func whiteAndLive(v api.View) []int {
	var out []int
	for i, is := range plainLive(v) {
		if is && plainWhite(v.Cells[i]) {
			out = append(out, i)
		}
	}
	return out
}

// cut makes what a view has grown by small again, as threads drop what they need no more.
func cut(v *api.View) {
	for i, l := range v.Lanes {
		v.Lanes[i].Roots = l.Roots[max(0, len(l.Roots)-4):]
	}
}

// TestWholeCycles: from a cycle's beginning on threads and the collector go steps by turns; the rule holds all the time, and at the end no live cell is white.
func TestWholeCycles(t *testing.T) {
	r := rand.New(rand.NewSource(133))
	steps, white := 0, 0
	for range 1500 {
		v := beginning(r)
		for !isDone(v) {
			all := collectorSteps(v)
			// Threads go three steps of four, as long as there are few of them: so the collector comes to an end.
			if s := threadSteps(v); len(s) > 0 && len(v.Lanes) < 6 && r.Intn(4) > 0 {
				all = s
			}
			v = all[r.Intn(len(all))].made(v)
			cut(&v)
			if v.Laid == len(v.Globals) && !slices.ContainsFunc(v.Lanes, func(l api.Lane) bool { return !l.Scanned }) {
				v.Phase = api.PhaseMark
			}
			holds(t, v)
			steps++
		}
		if l := whiteAndLive(v); len(l) > 0 {
			t.Fatalf("%s: %v are live and white", told(v), l)
		}
		if slices.ContainsFunc(v.Cells, plainWhite) {
			white++
		}
	}
	if steps < 20000 || white < 200 {
		t.Errorf("%d steps, %d ends with dead cells", steps, white)
	}
}

// TestTheCollectorAlone: out of any view that Holds it comes to an end, in whatever order it goes, at which no live cell is white.
func TestTheCollectorAlone(t *testing.T) {
	eachHeld(134, 4000, func(r *rand.Rand, v api.View) {
		for !isDone(v) {
			all := collectorSteps(v)
			v = all[r.Intn(len(all))].made(v)
			holds(t, v)
		}
		if l := whiteAndLive(v); len(l) > 0 {
			t.Fatalf("%s: %v are live and white", told(v), l)
		}
	})
}

// TestAtTheEnd: of drawn views in which nothing is left to be looked into, just those Hold in which no white cell is live, or named by a black one.
func TestAtTheEnd(t *testing.T) {
	r := rand.New(rand.NewSource(135))
	held, not := 0, 0
	for range 20000 {
		v := drawnView(r, 6)
		v.Laid, v.Grey = len(v.Globals), nil
		for i := range v.Lanes {
			v.Lanes[i].Scanned = true
		}
		for i, c := range v.Cells {
			if c.Colour == api.Grey {
				v.Cells[i].Colour = api.Black
			}
		}
		if isHeld(v) {
			held++
			if l := whiteAndLive(v); len(l) > 0 {
				t.Fatalf("%s: %v are live and white", told(v), l)
			}
		} else if len(whiteAndLive(v)) > 0 {
			not++
		}
	}
	if held < 2000 || not < 2000 {
		t.Errorf("%d hold, %d don't", held, not)
	}
}

// wrongSteps are steps that the chapter does not name, each of which may lose something.
func wrongSteps(v api.View) []step {
	var out []step
	for i, l := range v.Lanes {
		if l.Ended {
			continue
		}
		for _, s := range stores(v, i) {
			if len(s.shaded) == 2 {
				s.shaded, s.name = s.shaded[:1], "the old word alone is shaded"
				out = append(out, s)
			}
		}
		for _, s := range fills(v, i) {
			birth := s.change
			s.name, s.change = "a new cell is white", func(v *api.View) {
				birth(v)
				v.Cells[plainCell(v.Lanes[i].Roots[len(v.Lanes[i].Roots)-1], len(v.Cells))].Colour = api.White
			}
			out = append(out, s)
		}
		out = append(out, step{name: "a lane comes, Scanned, of one that is not", change: func(v *api.View) {
			v.Lanes = append(v.Lanes, api.Lane{Roots: slices.Clone(l.Roots), Scanned: true})
		}})
		for _, other := range v.Lanes {
			for _, w := range other.Roots {
				if !other.Ended {
					out = append(out, more("a Root of a lane that runs is taken", i, w))
				}
			}
		}
	}
	return out
}

// TestWhatTheRuleIsFor: what differs a little from the chapter's steps breaks it in some view: so those that are drawn can tell.
func TestWhatTheRuleIsFor(t *testing.T) {
	broken := map[string]int{}
	eachHeld(136, 20000, func(_ *rand.Rand, v api.View) {
		for _, s := range wrongSteps(v) {
			if ok, _, e := barrier.Holds(s.made(v)); e != api.OK {
				t.Fatalf("%s, of %s: %d", s.name, told(v), e)
			} else if !ok {
				broken[s.name]++
			}
		}
	})
	for _, s := range []string{"the old word alone is shaded", "a new cell is white", "a lane comes, Scanned, of one that is not", "a Root of a lane that runs is taken"} {
		if broken[s] < 20 {
			t.Errorf("%s: the rule is broken only %d times", s, broken[s])
		}
	}
}
