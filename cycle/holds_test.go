package cycle_test

import (
	"math"
	"math/rand"
	"slices"
	"strconv"
	"strings"
	"testing"

	"dapple/api"
	"dapple/cells"
	"dapple/cycle"
	"dapple/graph"
	"dapple/mark"
	"dapple/shake"
	"dapple/sweep"
	"dapple/words"
)

// inOrder sees that the steps of one cycle come in the order that ORDER tells; what is waited for is left out.
func (d desk) inOrder(texts []string, cells, globals int) {
	d.Helper()
	left := texts
	next := func() string {
		for len(left) > 0 && left[0] == "-" {
			left = left[1:]
		}
		if len(left) == 0 {
			return ""
		}
		return left[0]
	}
	must := func(text string) {
		d.Helper()
		if next() != text {
			d.Fatalf("%q, not %q, in %.300q", next(), text, texts)
		}
		left = left[1:]
	}
	must("begin")
	for global := range globals {
		must("root" + strconv.Itoa(global))
	}
	for strings.HasPrefix(next(), "ask") || strings.HasPrefix(next(), "thread") {
		left = left[1:]
	}
	for next() == "scan" {
		left = left[1:]
	}
	must("check")
	for cell := range cells {
		must("sweep" + strconv.Itoa(cell))
	}
	must("finish")
	if next() != "" {
		d.Fatalf("%q behind the last one", next())
	}
}

// source is what is around, where each thread is asked or scanned once, and each cell grey once; all else about it is anybody's.
type source struct {
	cells, globals int
	threads        int // a bit of each that is neither asked nor scanned yet
	asked          int // who was asked, and has not gone on
	whites         int // how many cells may still become grey
	grey           int
}

// views hands on each way in which that may look now: some of the white cells become grey; who was asked goes on, or
// does not; and any thread that is left is the least one that is not scanned.
func (w source) views(do func(w source, a api.Around)) {
	for more := range w.whites + 1 {
		v := w
		v.whites -= more
		v.grey += more
		a := api.Around{Cells: w.cells, Globals: w.globals, Grey: v.grey > 0}
		if v.asked != 0 {
			held := a
			held.Thread, held.Told = v.asked, true
			do(v, held)
			v.asked = 0
		}
		do(v, a)
		for thread := 1; v.threads>>thread != 0; thread++ {
			if v.threads>>thread&1 == 0 {
				continue
			}
			met := a
			met.Thread = thread
			do(v, met)
			met.Still = true
			do(v, met)
		}
	}
}

// behind is what is there when that step was done.
func (w source) behind(do api.Do) source {
	switch do.What {
	case api.StepAsk:
		w.threads &^= 1 << do.Thread
		w.asked = do.Thread
	case api.StepScanThread:
		w.threads &^= 1 << do.Thread
	case api.StepScan:
		w.grey--
	}
	return w
}

// moment is where the collector is and what is around it: all that what comes then hangs on.
type moment struct {
	s api.Cycle
	w source
}

// longest is how many steps there are at most from here up to StepFinish, with it; every way on is gone, each moment once.
func (d desk) longest(at moment, known map[moment]int) int {
	if many, ok := known[at]; ok {
		return many
	}
	many := 0
	at.w.views(func(w source, a api.Around) {
		do := cycle.Next(at.s, a)
		if do.What == 0 {
			d.stepped(at.s, a, false, api.Cycle{}, api.ErrCycleBusy)
			return
		}
		for _, back := range []bool{false, true} {
			s, e := cycle.Step(at.s, a, back)
			if e != api.OK || len(broken(maySay(s))) != 0 {
				d.Fatalf("Step(%+v, %+v, %t): %+v, %d", at.s, a, back, s, e)
			}
			if do.What == api.StepFinish {
				many = max(many, 1)
				continue
			}
			d.rises(at.s, s, do)
			many = max(many, 1+d.longest(moment{s, w.behind(do)}, known))
		}
	})
	known[at] = many
	return many
}

// rises sees that a step goes on, so that what goes through all of them ends, whatever they are.
func (d desk) rises(s, to api.Cycle, do api.Do) {
	d.Helper()
	rank := func(s api.Cycle) int { return int(s.Phase)*100 + s.Global + s.Swept }
	stays := do.What == api.StepAsk || do.What == api.StepScanThread || do.What == api.StepScan
	if rank(to) < rank(s) || rank(to) == rank(s) && !stays {
		d.Fatalf("from %+v to %+v by %s", s, to, text(do))
	}
}

// TestItEndsEveryWay: of each small number of cells, globals and threads, on every way: the longest one has just Most steps.
func TestItEndsEveryWay(t *testing.T) {
	d := desk{t}
	for cells := range 4 {
		for globals := range 3 {
			for threads := range 4 {
				w := source{cells: cells, globals: globals, threads: 1<<(threads+1) - 2, whites: cells}
				s := api.Cycle{Asked: true}
				many := d.longest(moment{s, w}, map[moment]int{})
				if most := cycle.Most(cells, globals, threads); many != most {
					t.Errorf("%d cells, %d globals, %d threads: %d steps, not %d", cells, globals, threads, many, most)
				}
			}
		}
	}
}

// TestDrawnCycles: drawn worlds, whose threads stand still, go on at once or late, and bear others: IT ENDS and ORDER.
func TestDrawnCycles(t *testing.T) {
	r := rand.New(rand.NewSource(173))
	d := desk{t}
	full, born, waited := 0, 0, 0
	for range 20000 {
		w := small{cells: r.Intn(12), globals: r.Intn(5)}
		for range r.Intn(5) {
			w.threads = append(w.threads, thread{still: r.Intn(2) == 0, slow: r.Intn(3), child: r.Intn(4) == 0})
		}
		were := len(w.threads)
		w.grey = r.Intn(w.cells + 1)
		for white := w.cells - w.grey; white > 0 && w.grey > 0 && r.Intn(8) != 0; {
			more := r.Intn(min(white, 3) + 1)
			w.finds = append(w.finds, more)
			white -= more
		}
		for range w.cells {
			w.dead += "x."[r.Intn(2):][:1]
		}
		begun := r.Intn(1000)
		texts, steps, behind := d.whole(&w, api.Cycle{Begun: begun})
		d.inOrder(texts, w.cells, w.globals)
		most := cycle.Most(w.cells, w.globals, len(w.threads))
		if steps > most || behind != (api.Cycle{Begun: begun + 1}) {
			t.Fatalf("%d of %d steps, %+v, %v", steps, most, behind, texts)
		}
		d.threadsRise(texts, len(w.threads))
		if steps == most {
			full++
		}
		born += len(w.threads) - were
		waited += len(texts) - steps
	}
	if full < 1000 || born < 1000 || waited < 10000 {
		t.Errorf("%d have as many steps as there can be, %d threads were born, %d times it waited", full, born, waited)
	}
}

// threadsRise sees that each thread is met once, the later behind the earlier: also who is born in the midst.
func (d desk) threadsRise(texts []string, threads int) {
	d.Helper()
	next := 1
	for _, text := range texts {
		for _, kind := range []string{"ask", "thread"} {
			if of, ok := strings.CutPrefix(text, kind); ok {
				if of != strconv.Itoa(next) {
					d.Fatalf("thread %d is not next, but %s, in %v", next, of, texts)
				}
				next++
			}
		}
	}
	if next != threads+1 {
		d.Fatalf("%d of %d threads were met, in %v", next-1, threads, texts)
	}
}

// TestWhateverIsAround: what is around is drawn afresh at each step, and promises nothing but that it fits and does not
// shrink: the collector goes only on, globals and cells one by one, and never back but by its end.
func TestWhateverIsAround(t *testing.T) {
	r := rand.New(rand.NewSource(174))
	d := desk{t}
	ends := 0
	for range 5000 {
		s := api.Cycle{Asked: true}
		a := api.Around{Cells: r.Intn(5), Globals: r.Intn(4)}
		var texts []string
		for len(texts) < 200 {
			a.Thread, a.Still, a.Told, a.Grey = r.Intn(3), r.Intn(2) == 0, r.Intn(2) == 0, r.Intn(3) != 0
			do := cycle.Next(s, a)
			texts = append(texts, text(do))
			to, e := cycle.Step(s, a, r.Intn(2) == 0)
			if do.What == 0 {
				if e != api.ErrCycleBusy {
					t.Fatal(e)
				}
				continue
			}
			if e != api.OK || len(broken(maySay(to))) != 0 {
				t.Fatalf("from %+v to %+v, %d", s, to, e)
			}
			s = to
			if do.What == api.StepFinish {
				break
			}
		}
		if s.Phase == api.PhaseIdle {
			d.inOrder(texts, a.Cells, a.Globals)
			ends++
		}
	}
	if ends < 4000 {
		t.Errorf("%d end", ends)
	}
}

// TestStepMayBe: what comes of Step of what may be and fits may be, of a Begun below 2^63 - 2; with all numbers that there are.
func TestStepMayBe(t *testing.T) {
	r := rand.New(rand.NewSource(175))
	count := func(not int) int {
		switch r.Intn(4) {
		case 0:
			return math.MaxInt - not - r.Intn(3)
		case 1:
			return int(r.Uint64() >> 1 >> r.Intn(63))
		}
		return r.Intn(4)
	}
	whats := map[api.What]int{}
	for range 200000 {
		s := api.Cycle{Phase: api.Phase(r.Intn(4)), Begun: min(count(2), math.MaxInt-3)}
		switch s.Phase {
		case api.PhaseIdle:
			s.Asked = r.Intn(4) != 0
		case api.PhaseRoots:
			s.Global = count(0)
		case api.PhaseSweep:
			s.Swept = count(0)
			s.Freed = min(count(0), s.Swept)
		}
		if wrong := broken(maySay(s)); len(wrong) != 0 {
			t.Fatalf("%+v: %v", s, wrong)
		}
		a := api.Around{Cells: max(s.Swept, count(0)), Globals: s.Global, Thread: r.Intn(2) * count(0), Still: r.Intn(2) == 0, Told: r.Intn(2) == 0, Grey: r.Intn(2) == 0}
		if r.Intn(2) == 0 {
			a.Globals = max(s.Global, count(0))
		}
		do := cycle.Next(s, a)
		whats[do.What]++
		to, e := cycle.Step(s, a, r.Intn(2) == 0)
		if do.What == 0 {
			if e != api.ErrCycleBusy || to != (api.Cycle{}) {
				t.Fatalf("Step(%+v, %+v): %+v, %d", s, a, to, e)
			}
			continue
		}
		if wrong := broken(maySay(to)); e != api.OK || len(wrong) != 0 {
			t.Fatalf("Step(%+v, %+v): %+v, %d: %v", s, a, to, e, wrong)
		}
		if _, e := cycle.Begin(to); e == api.ErrCycleForm {
			t.Fatalf("Begin(%+v): %d", to, e)
		}
	}
	for what := api.StepBegin; what <= api.StepFinish; what++ {
		if whats[what] < 500 {
			t.Errorf("step %d: %d times", what, whats[what])
		}
	}
}

// TestOnAHeap: who has a heap asks what is next, does it, and notes it: what is not reached has been given back then, and nothing else.
func TestOnAHeap(t *testing.T) {
	r := rand.New(rand.NewSource(176))
	freed, kept := 0, 0
	for range 1500 {
		many := 4 + r.Intn(12)
		drawn := func() api.Word {
			if r.Intn(3) == 0 {
				seven, _ := words.Int(7)
				return seven
			}
			return words.Ref(r.Intn(many))
		}
		h, _ := cells.New(many)
		for cell := range many {
			if r.Intn(5) != 0 {
				h.Make(cell, api.KindPair, api.White, drawn(), drawn())
			}
		}
		was := h.Snapshot()
		globals := make([]api.Word, r.Intn(2))
		for i := range globals {
			globals[i] = drawn()
		}
		roots := make([]api.Word, r.Intn(3))
		for i := range roots {
			roots[i] = drawn()
		}
		collect(t, h, globals, roots)
		reached, e := graph.Reach(was, slices.Concat(globals, roots)...)
		if e != api.OK {
			t.Fatal(e)
		}
		for cell, is := range h.Snapshot() {
			want := api.Cell{}
			if was[cell].Kind != api.KindFree && reached[cell] {
				want = was[cell]
				kept++
			} else if was[cell].Kind != api.KindFree {
				freed++
			}
			if is != want {
				t.Fatalf("cell %d is %x, not %x", cell, is, want)
			}
		}
	}
	if freed < 2000 || kept < 2000 {
		t.Errorf("%d were freed, %d kept", freed, kept)
	}
}

// collect is a whole cycle on such a heap, of threads with one root each, that lay it as soon as they are asked.
func collect(t *testing.T, h *cells.Heap, globals, roots []api.Word) {
	t.Helper()
	m, w, sh := mark.New(h), sweep.New(h), shake.New()
	for range roots {
		sh.Born(0)
	}
	s, _ := cycle.Begin(api.Cycle{})
	steps := 0
	for ; steps == 0 || s.Phase != api.PhaseIdle; steps++ {
		a := api.Around{Cells: h.Len(), Globals: len(globals), Thread: sh.Left(), Grey: len(m.Grey()) > 0}
		a.Still = a.Thread%2 == 0
		do, back := cycle.Next(s, a), false
		switch do.What {
		case api.StepBegin:
			sh.Begin()
		case api.StepRoot:
			m.Shade(globals[do.Global])
		case api.StepAsk, api.StepScanThread:
			m.Shade(roots[do.Thread-1])
			sh.Lay(do.Thread)
		case api.StepScan:
			m.Scan()
		case api.StepCheck:
			sh.End()
			w.Begin()
		case api.StepSweep:
			_, back, _ = w.Step()
		}
		var e api.Errno
		if s, e = cycle.Step(s, a, back); e != api.OK || steps > 1000 {
			t.Fatalf("%s: %d behind %d others", text(do), e, steps)
		}
		if s.Phase == api.PhaseSweep && (s.Swept != w.At() || s.Freed != w.Freed()) {
			t.Fatalf("%+v, though %d were swept and %d freed", s, w.At(), w.Freed())
		}
	}
	if most := cycle.Most(h.Len(), len(globals), len(roots)); steps > most {
		t.Fatalf("%d steps of %d", steps, most)
	}
}
