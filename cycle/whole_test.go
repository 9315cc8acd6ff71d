package cycle_test

import (
	"strconv"
	"strings"
	"testing"

	"dapple/api"
	"dapple/cycle"
)

// text is a step in short: its name, and the number of what it is of.
func text(do api.Do) string {
	switch do.What {
	case 0:
		return "-"
	case api.StepBegin:
		return "begin"
	case api.StepRoot:
		return "root" + strconv.Itoa(do.Global)
	case api.StepAsk:
		return "ask" + strconv.Itoa(do.Thread)
	case api.StepScanThread:
		return "thread" + strconv.Itoa(do.Thread)
	case api.StepScan:
		return "scan"
	case api.StepCheck:
		return "check"
	case api.StepSweep:
		return "sweep" + strconv.Itoa(do.Cell)
	case api.StepFinish:
		return "finish"
	}
	return "?" + strconv.Itoa(int(do.What))
}

// thread is one of a small world's.
type thread struct {
	still   bool // it waits, or has ended
	slow    int  // how many times the collector is held up by it, once it was asked
	child   bool // a thread is born of it, ahead of its being scanned
	scanned bool
	told    bool
}

// small is a world with just as much in it as a cycle asks for.
type small struct {
	cells, globals int
	threads        []thread // the first one is number 1
	grey           int      // how many cells are grey
	finds          []int    // how many more become so by each scan of one
	dead           string   // which cells are given back: a letter x a cell
}

// around is what the collector sees.
func (w *small) around() api.Around {
	a := api.Around{Cells: w.cells, Globals: w.globals, Grey: w.grey > 0}
	for i, th := range w.threads {
		if !th.scanned {
			a.Thread, a.Still, a.Told = i+1, th.still, th.told
			break
		}
	}
	return a
}

// does does what the collector does next, or lets the thread go on for which it waits; and tells whether a cell was given back.
func (w *small) does(do api.Do, waitsFor int) (back bool) {
	switch do.What {
	case 0:
		th := &w.threads[waitsFor-1]
		if th.slow > 0 {
			th.slow--
			return false
		}
		w.scanned(waitsFor)
	case api.StepAsk:
		w.threads[do.Thread-1].told = true
		if w.threads[do.Thread-1].child {
			w.threads = append(w.threads, thread{still: true})
		}
	case api.StepScanThread:
		w.scanned(do.Thread)
	case api.StepScan:
		w.grey--
		if len(w.finds) > 0 {
			w.grey += w.finds[0]
			w.finds = w.finds[1:]
		}
	case api.StepSweep:
		return do.Cell < len(w.dead) && w.dead[do.Cell] == 'x'
	}
	return false
}

func (w *small) scanned(thread int) { w.threads[thread-1].scanned = true }

// whole goes through a cycle of it, from Begin on: its steps, with what is waited for among them, how many steps they are, and where the collector is behind them.
func (d desk) whole(w *small, s api.Cycle) (texts []string, steps int, behind api.Cycle) {
	d.Helper()
	s, e := cycle.Begin(s)
	if e != api.OK {
		d.Fatalf("Begin: %d", e)
	}
	for len(texts) < 100000 {
		a := w.around()
		do := cycle.Next(s, a)
		back := w.does(do, a.Thread)
		texts = append(texts, text(do))
		behind, e := cycle.Step(s, a, back)
		if do.What == 0 {
			if e != api.ErrCycleBusy || behind != (api.Cycle{}) {
				d.Fatalf("Step, though nothing is next: %+v, %d", behind, e)
			}
			continue
		}
		steps++
		if e != api.OK {
			d.Fatalf("Step(%+v, %+v, %t): %d", s, a, back, e)
		}
		s = behind
		if do.What == api.StepFinish {
			return texts, steps, s
		}
	}
	d.Fatal("it does not end")
	return nil, 0, s
}

// TestWholeCycles: step by step, with what is waited for as `-`.
func TestWholeCycles(t *testing.T) {
	still, goes := thread{still: true}, thread{}
	for _, c := range []struct {
		name  string
		w     small
		steps string
		most  bool // there are as many steps as there can be
	}{
		{"nothing", small{}, "begin check finish", true},
		{"one global", small{globals: 1}, "begin root0 check finish", true},
		{"one thread that waits", small{threads: []thread{still}}, "begin thread1 check finish", true},
		{"one thread that goes on", small{threads: []thread{goes}}, "begin ask1 - check finish", true},
		{"one cell that is dead", small{cells: 1, dead: "x"}, "begin check sweep0 finish", false},
		{"one cell that is live", small{cells: 1, grey: 1}, "begin scan check sweep0 finish", true},
		{"the first example of the document", small{cells: 4, threads: []thread{still}, dead: "x"}, "begin thread1 check sweep0 sweep1 sweep2 sweep3 finish", false},
		{"globals alone, rising", small{globals: 3}, "begin root0 root1 root2 check finish", true},
		{"cells, one by one grey", small{cells: 3, grey: 1, finds: []int{1, 1}}, "begin scan scan scan check sweep0 sweep1 sweep2 finish", true},
		{"cells, all grey by one", small{cells: 3, grey: 1, finds: []int{2}}, "begin scan scan scan check sweep0 sweep1 sweep2 finish", true},
		{"threads of both kinds", small{threads: []thread{goes, still, goes}}, "begin ask1 - thread2 ask3 - check finish", true},
		{"a thread that is slow", small{threads: []thread{{slow: 3}, still}}, "begin ask1 - - - - thread2 check finish", true},
		{"a thread that is born late", small{threads: []thread{{child: true}, still}}, "begin ask1 - thread2 thread3 check finish", true},
		{"grey cells wait for the threads", small{cells: 2, globals: 1, threads: []thread{goes, still}, grey: 2, dead: "xx"}, "begin root0 ask1 - thread2 scan scan check sweep0 sweep1 finish", true},
		{"some of all", small{cells: 4, globals: 2, threads: []thread{still, {slow: 1, child: true}, goes}, grey: 1, finds: []int{2}, dead: "..x"}, "begin root0 root1 thread1 ask2 - - ask3 - thread4 scan scan scan check sweep0 sweep1 sweep2 sweep3 finish", false},
	} {
		t.Run(c.name, func(t *testing.T) {
			w := c.w
			w.threads = append([]thread(nil), w.threads...)
			texts, steps, behind := desk{t}.whole(&w, api.Cycle{Begun: 6})
			if got := strings.Join(texts, " "); got != c.steps {
				t.Errorf("%s\nnot\n%s", got, c.steps)
			}
			if behind != (api.Cycle{Begun: 7}) {
				t.Errorf("behind it: %+v", behind)
			}
			if most := cycle.Most(w.cells, w.globals, len(w.threads)); steps > most || (steps == most) != c.most {
				t.Errorf("%d steps of at most %d", steps, most)
			}
		})
	}
}

// TestToldAndThenStill: who was asked, and then waits, is scanned by the collector itself, and holds it up no more.
func TestToldAndThenStill(t *testing.T) {
	d := desk{t}
	s := api.Cycle{Phase: api.PhaseRoots, Global: 1, Begun: 1}
	a := api.Around{Cells: 4, Globals: 1, Thread: 2, Grey: true}
	d.goes(s, a, api.Do{What: api.StepAsk, Thread: 2}, s)
	a.Told = true
	d.waits(s, a)
	d.waits(s, a)
	a.Still = true
	d.goes(s, a, api.Do{What: api.StepScanThread, Thread: 2}, s)
	a.Thread, a.Told, a.Still = 0, false, false
	d.goes(s, a, api.Do{What: api.StepScan}, api.Cycle{Phase: api.PhaseMark, Begun: 1})
}

// TestGreatWhole: as many of all as a world can have, all of them live: as many steps as there can be, and all of them given back: as many as are freed.
func TestGreatWhole(t *testing.T) {
	d := desk{t}
	for _, dead := range []bool{false, true} {
		w := small{cells: api.MaxCells, globals: api.MaxGlobals, threads: make([]thread, api.MaxThreads)}
		want := api.MaxCells + api.MaxGlobals + api.MaxThreads + 3
		if dead {
			w.dead = strings.Repeat("x", w.cells)
		} else {
			w.grey, w.finds = 1, []int{w.cells - 1}
			want += api.MaxCells
		}
		texts, steps, behind := d.whole(&w, api.Cycle{})
		if steps != want || steps > cycle.Most(w.cells, w.globals, len(w.threads)) {
			t.Errorf("%d steps, not %d", steps, want)
		}
		d.inOrder(texts, w.cells, w.globals)
		if behind != (api.Cycle{Begun: 1}) {
			t.Errorf("%+v", behind)
		}
	}
}

// TestFreedIsCounted: at each step of a sweep Freed is how many were given back by then.
func TestFreedIsCounted(t *testing.T) {
	for mix := range 1 << 6 {
		s := api.Cycle{Phase: api.PhaseSweep, Begun: 2}
		freed := 0
		for cell := range 6 {
			back := mix>>cell&1 != 0
			if back {
				freed++
			}
			var e api.Errno
			if s, e = cycle.Step(s, api.Around{Cells: 6}, back); e != api.OK || s != (api.Cycle{Phase: api.PhaseSweep, Swept: cell + 1, Freed: freed, Begun: 2}) {
				t.Fatalf("%b: behind %d: %+v, %d", mix, cell, s, e)
			}
		}
	}
}

// TestCycleBehindCycle: each counts one more, and leaves nothing else behind.
func TestCycleBehindCycle(t *testing.T) {
	s := api.Cycle{}
	for i := range 50 {
		w := small{cells: i % 5, globals: i % 3, threads: make([]thread, i%4), grey: min(i%5, 1), dead: "x.x."}
		_, _, s = desk{t}.whole(&w, s)
		if s != (api.Cycle{Begun: i + 1}) {
			t.Fatalf("behind %d: %+v", i, s)
		}
	}
}
