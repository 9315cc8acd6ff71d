package world_test

import (
	"fmt"
	"slices"
	"testing"

	"dapple/api"
	"dapple/barrier"
	"dapple/world"
)

// watcher lets actors of a world go steps, and holds each sentence of 'What holds' against what is told and seen.
type watcher struct {
	*testing.T
	w *world.World

	row     []int       // who waits for a cell, by the StepWaits
	begunAt map[int]int // how many cycles had begun then
	gifts   map[int]int // the cells that were given, and are not filled, by threads
	refused map[int]int // who was refused, and has not ended: 1
	asked   int         // the thread that was asked, and has not laid its roots
	gone    map[int]int // how many steps each actor has gone

	cycle cycleWatch
	count struct{ cycles, freed, gifts, refusals, shaded, waits int }
}

// cycleWatch is what was told of the cycle at hand.
type cycleWatch struct {
	running bool
	steps   int
	shaded  map[int]int
	scanned map[int]int
	swept   []int
	freed   int
	back    map[int]int // which cells were given back
	dead    []int       // what was neither live nor free when it began
	full    bool        // each cell was live when it began, or given and not filled
}

func newWatcher(t *testing.T, c api.Config, code api.Code) *watcher {
	t.Helper()
	w, e := world.New(c, code)
	if e != api.OK {
		t.Fatal(e)
	}
	return &watcher{T: t, w: w, begunAt: map[int]int{}, gifts: map[int]int{}, refused: map[int]int{}, gone: map[int]int{}}
}

// goes lets an actor go a step; with a check all that can be seen is looked at, too.
func (x *watcher) goes(actor int, check bool) api.Event {
	x.Helper()
	var ahead sight
	if check {
		ahead = seen(x.w)
	}
	began := x.beginning(actor)
	e := picked(x, x.w, actor)
	x.gone[actor]++
	if check {
		x.sees(ahead, e)
	}
	if actor == 0 {
		x.collectorStep(e, began)
	} else {
		x.threadStep(e)
	}
	if check {
		x.lost(e)
		x.sources(e)
		x.fits()
	}
	return e
}

// wrong is a sentence that does not hold.
func (x *watcher) wrong(e api.Event, sentence string, more ...any) {
	x.Helper()
	x.Fatalf("%+v: %s %v; %+v", e, sentence, fmt.Sprint(more...), seen(x.w))
}

// beginning is what there is ahead of a step of the collector's, which may be a StepBegin.
func (x *watcher) beginning(actor int) (c cycleWatch) {
	if phase, _ := x.w.Phase(); actor != 0 || phase != api.PhaseIdle {
		return
	}
	c = cycleWatch{running: true, shaded: map[int]int{}, scanned: map[int]int{}, back: map[int]int{}, full: true}
	heap := x.w.Heap()
	for n, is := range live(x.w) {
		given := false
		for _, cell := range x.gifts {
			given = given || cell == n
		}
		if !is && isUsed(heap[n]) {
			c.dead = append(c.dead, n)
		}
		c.full = c.full && (is || given)
	}
	return c
}

// sees holds an event against what was seen ahead of it, and what is seen now.
func (x *watcher) sees(ahead sight, e api.Event) {
	x.Helper()
	if x.w.Steps() != ahead.steps+1 {
		x.wrong(e, "a step is one step")
	}
	v := x.w.View()
	for _, cell := range e.Shaded {
		if c := ahead.heap[cell]; !isUsed(c) || c.Colour != api.White || v.Cells[cell].Colour != api.Grey {
			x.wrong(e, "what is shaded was white, and is grey: not", cell)
		}
	}
	switch e.What {
	case api.StepLoad, api.StepStore, api.StepCas, api.StepAdd:
		if !isUsed(ahead.heap[e.Cell]) {
			x.wrong(e, "no step speaks of a free cell")
		}
	case api.StepAlloc:
		want, given := x.gifts[e.Actor]
		if !given && len(ahead.free) > 0 {
			want = ahead.free[0]
		}
		if e.Cell != want || isUsed(ahead.heap[e.Cell]) || !given && len(ahead.free) == 0 {
			x.wrong(e, "a cell is the least free one, or the one that was given:", want)
		}
	case api.StepWait:
		if _, given := x.gifts[e.Actor]; given || len(ahead.free) > 0 {
			x.wrong(e, "only who finds no cell waits")
		}
	}
	if e.Actor > 0 && (e.What == api.StepAck) != (x.asked == e.Actor) {
		x.wrong(e, "who was asked lays its roots, and nobody else does")
	}
	if e.Actor > 0 && e.What != api.StepAck && (x.refused[e.Actor] > 0) != (e.What == api.StepEnd && e.Err == api.ErrNoCells) {
		x.wrong(e, "who was refused ends by that, and nobody else does")
	}
}

// threadStep writes down what a thread's step tells.
func (x *watcher) threadStep(e api.Event) {
	switch e.What {
	case api.StepAck:
		x.asked = 0
		x.shades(e)
		return
	case api.StepAlloc:
		delete(x.gifts, e.Actor)
	case api.StepWait:
		_, begun := x.w.Phase()
		x.row = append(x.row, e.Actor)
		x.begunAt[e.Actor] = begun
		x.count.waits++
	}
	delete(x.refused, e.Actor)
	x.shades(e)
}

// shades counts what a step made grey.
func (x *watcher) shades(e api.Event) {
	x.Helper()
	if len(e.Shaded) > 0 && !x.cycle.running {
		x.wrong(e, "nothing is shaded out of a cycle")
	}
	for _, cell := range e.Shaded {
		x.count.shaded++
		x.cycle.shaded[cell]++
		if x.cycle.shaded[cell] > 1 {
			x.wrong(e, "a cell is shaded once at most: not", cell)
		}
	}
}

// collectorStep writes down what a step of the collector's tells, and holds T3, T4 and T5 against it.
func (x *watcher) collectorStep(e api.Event, began cycleWatch) {
	x.Helper()
	if e.What == api.StepBegin {
		if x.cycle.running {
			x.wrong(e, "one cycle is at one time")
		}
		x.cycle = began
		x.count.cycles++
	}
	x.cycle.steps++
	x.shades(e)
	switch e.What {
	case api.StepAsk:
		x.asked = e.Other
	case api.StepScan:
		x.cycle.scanned[e.Cell]++
		if x.cycle.scanned[e.Cell] > 1 {
			x.wrong(e, "a cell is scanned once at most")
		}
	case api.StepSweep:
		x.sweeps(e)
	case api.StepFinish:
		x.finishes(e)
	}
}

func (x *watcher) sweeps(e api.Event) {
	x.Helper()
	if e.Cell != len(x.cycle.swept) {
		x.wrong(e, "each cell is swept once, in order; not", e.Cell)
	}
	x.cycle.swept = append(x.cycle.swept, e.Cell)
	if !e.Yes {
		if e.Other != 0 {
			x.wrong(e, "a cell that stays is given to nobody")
		}
		return
	}
	x.cycle.freed++
	x.cycle.back[e.Cell]++
	x.count.freed++
	if len(x.row) == 0 {
		if e.Other != 0 {
			x.wrong(e, "nobody waits")
		}
		return
	}
	if e.Other != x.row[0] {
		x.wrong(e, "a cell goes to who waits longest:", x.row)
	}
	x.row = x.row[1:]
	x.gifts[e.Other] = e.Cell
	x.count.gifts++
}

func (x *watcher) finishes(e api.Event) {
	x.Helper()
	c := x.cycle
	heap := x.w.Heap()
	if most := 2*len(heap) + len(x.w.Globals()) + 8 + 3; c.steps > most {
		x.wrong(e, "a cycle ends; it has steps:", c.steps)
	}
	if len(c.swept) != len(heap) || e.Other != c.freed {
		x.wrong(e, "all are swept, and what was given back is counted", c.swept, c.freed)
	}
	for _, cell := range c.dead {
		if c.back[cell] == 0 {
			x.wrong(e, "nothing dead stays; there is", cell)
		}
	}
	_, begun := x.w.Phase()
	var stay []int
	for _, thread := range x.row {
		if c.freed != 0 || x.begunAt[thread] >= begun {
			stay = append(stay, thread)
			continue
		}
		x.refused[thread] = 1
		x.count.refusals++
		if !c.full {
			x.wrong(e, "who is refused waited ahead of a cycle at whose beginning each cell was live, or given and not filled", thread)
		}
	}
	x.row = stay
	x.cycle.running = false
}

// lost holds T2: no cell that is live is free.
func (x *watcher) lost(e api.Event) {
	x.Helper()
	heap := x.w.Heap()
	all := reached(heap, func(api.Cell) bool { return true }, x.w.Roots()...)
	for n, is := range all {
		if is && !isUsed(heap[n]) {
			x.wrong(e, "no cell that is live is free; lost is", n)
		}
	}
}

// sources holds the sentence of the sources, by barrier and by its own words.
func (x *watcher) sources(e api.Event) {
	x.Helper()
	v := x.w.View()
	if is, cell, err := barrier.Holds(v); !is || err != api.OK {
		x.wrong(e, "a view holds", cell, err)
	}
	if !isOn(v.Phase) {
		return
	}
	isWhite := func(c api.Cell) bool { return isUsed(c) && c.Colour == api.White }
	var from, well, met []api.Word
	for _, c := range v.Cells {
		if isUsed(c) && c.Colour == api.Grey {
			well = append(well, c.A, c.B)
		}
		if isUsed(c) && c.Colour == api.Black {
			met = append(met, c.A, c.B)
		}
	}
	well = append(well, v.Globals[v.Laid:]...)
	met = append(met, v.Globals[:v.Laid]...)
	for _, l := range v.Lanes {
		switch {
		case l.Scanned:
			met = append(met, l.Roots...)
		case l.Ended:
			well = append(well, l.Roots...)
		default:
			from = append(from, l.Roots...)
		}
	}
	guarded, safe := reached(v.Cells, isWhite, append(from, well...)...), reached(v.Cells, isWhite, well...)
	for n, is := range live(x.w) {
		if is && isWhite(v.Cells[n]) && !guarded[n] {
			x.wrong(e, "each white cell that is live is reached from a source; not", n)
		}
	}
	for _, w := range met {
		if isRef(w) && isWhite(v.Cells[cellOf(w)]) && !safe[cellOf(w)] {
			x.wrong(e, "what was met names only what is reached from a source that is no thread", w)
		}
	}
}

// fits sees that all that can be seen fits together.
func (x *watcher) fits() {
	x.Helper()
	s := seen(x.w)
	v := s.view
	if !slices.Equal(v.Cells, s.heap) || v.Phase != s.phase || !slices.Equal(v.Globals, s.globals) || len(v.Lanes) != s.threads {
		x.wrong(api.Event{}, "a view is what there is")
	}
	var roots []api.Word
	for n, l := range v.Lanes {
		roots = append(roots, l.Roots...)
		if s.ended[n+1].Ended != l.Ended || s.phase != api.PhaseRoots && !l.Scanned {
			x.wrong(api.Event{}, "a lane is a thread")
		}
	}
	if !slices.Equal(s.roots, append(roots, s.globals...)) {
		x.wrong(api.Event{}, "roots are those of all threads, and the globals")
	}
	var row []int
	for _, w := range s.waiting {
		row = append(row, w.Thread)
		if w.Begun != x.begunAt[w.Thread] || slices.Contains(s.ready, w.Thread) {
			x.wrong(api.Event{}, "who waits has waited since", w)
		}
	}
	if !slices.Equal(row, x.row) {
		x.wrong(api.Event{}, "who waits for a cell stands in a row", x.row)
	}
	var free []int
	for n, c := range s.heap {
		given := false
		for _, cell := range x.gifts {
			given = given || cell == n
		}
		if given && isUsed(c) {
			x.wrong(api.Event{}, "a cell that is given stays free till it is filled; not", n)
		}
		if !isUsed(c) && !given {
			free = append(free, n)
		}
	}
	if !slices.Equal(s.free, free) {
		x.wrong(api.Event{}, "free is what nobody has, and nobody was given", free)
	}
}
