package world_test

import (
	"math/rand"
	"testing"

	"dapple/api"
)

// TestWhatHolds on drawn codes and picks.
func TestWhatHolds(t *testing.T) {
	t.Parallel()
	var all watcher
	for seed := range int64(700) {
		r := rand.New(rand.NewSource(seed + 5000))
		c, code := drawnWorld(r)
		x := newWatcher(t, c, code)
		from := newMover(r)
		for range 250 {
			switch m := from.next(x.w); m.what {
			case toPick:
				ready := x.w.Ready()
				x.goes(ready[m.n%len(ready)], true)
			case toStart, toCollect:
				made(x.w, m)
			}
			if isOver(x.w) && r.Intn(20) == 0 {
				break
			}
		}
		all.count.cycles += x.count.cycles
		all.count.freed += x.count.freed
		all.count.gifts += x.count.gifts
		all.count.refusals += x.count.refusals
		all.count.shaded += x.count.shaded
		all.count.waits += x.count.waits
	}
	if n := all.count; n.cycles < 1000 || n.freed < 3000 || n.gifts < 200 || n.refusals < 200 || n.shaded < 5000 || n.waits < 500 {
		t.Errorf("%+v", n)
	}
}

// small is a small program, all of whose mixes with the collector are gone through.
type small struct {
	name   string
	cells  int
	locks  int
	global int
	starts []int
	cycles int
	procs  []api.Proc
	result []api.Word // of each thread, whatever the mix; 0: any
}

// mixes are small programs in which something could be lost, or seen.
func mixes() []small {
	back := do(api.OpReturn)
	car, cdr, cons := prim(api.PrimCar), prim(api.PrimCdr), prim(api.PrimCons)
	set := func(i int) []api.Instr { return one(do(api.OpSetGlobal, i), do(api.OpPop)) }
	get := func(i int) api.Instr { return do(api.OpGlobal, i) }
	drop := do(api.OpPop)
	return []small{
		{name: "the only reference is laid into a cell that was met, and dropped", cells: 4, global: 1, starts: []int{0}, cycles: 2,
			procs:  []api.Proc{proc(0, some(newPair(0), set(0), one(get(0)), newPair(7), one(prim(api.PrimSetCar), drop, get(0), car, car, back))...)},
			result: []api.Word{number(7)}},
		{name: "a reference moves from a cell that was not met into a variable", cells: 5, global: 2, starts: []int{0}, cycles: 1,
			procs:  []api.Proc{proc(0, some(newPair(7), one(layNil(), cons), set(0), one(get(0), car), set(1), one(get(0), layNil(), prim(api.PrimSetCar), drop, get(1), car, back))...)},
			result: []api.Word{number(7)}},
		{name: "the only reference goes through the stack", cells: 4, global: 1, starts: []int{0}, cycles: 2,
			procs:  []api.Proc{proc(0, some(newPair(7), one(prim(api.PrimBox)), set(0), one(get(0), prim(api.PrimUnbox), get(0), layNil(), prim(api.PrimSetBox), drop, car, back))...)},
			result: []api.Word{number(7)}},
		{name: "an exchange", cells: 4, global: 1, starts: []int{0}, cycles: 1,
			procs:  []api.Proc{proc(0, some(newPair(6), one(prim(api.PrimBox)), set(0), one(get(0), get(0), prim(api.PrimUnbox)), newPair(7), one(prim(api.PrimCas), drop, get(0), prim(api.PrimUnbox), car, back))...)},
			result: []api.Word{number(7)}},
		{name: "one gives, one takes", cells: 4, global: 1, starts: []int{0, 1}, cycles: 1,
			procs: []api.Proc{
				proc(0, some(newPair(7), set(0), newPair(8), set(0), one(layNil(), back))...),
				proc(0, get(0), car, back)},
			result: []api.Word{null(), 0}},
		{name: "a thread is begun with an environment, and joined", cells: 6, starts: []int{0}, cycles: 1,
			procs: []api.Proc{
				proc(0, some(one(do(api.OpClosure, 1)), newPair(7), one(do(api.OpCall, 1), car, back))...),
				proc(1, do(api.OpClosure, 2), do(api.OpSpawn), do(api.OpJoin), back),
				proc(0, do(api.OpVar, 0), back)},
			result: []api.Word{number(7), 0}},
		{name: "two wait for cells", cells: 4, starts: []int{0, 0}, cycles: 1,
			procs:  []api.Proc{proc(0, some(newPair(1), newPair(2), one(drop), newPair(7), one(cdr, drop, car, back))...)},
			result: []api.Word{number(1), number(1)}},
		{name: "one waits, and is given what it has dropped", cells: 4, starts: []int{0}, cycles: 3,
			procs:  []api.Proc{proc(0, some(newPair(1), newPair(2), one(drop), newPair(3), newPair(4), one(drop, drop), newPair(5), newPair(6), one(cons, car, car, drop, car, back))...)},
			result: []api.Word{number(1)}},
		{name: "one waits, and keeps all", cells: 4, starts: []int{0}, cycles: 3,
			procs:  []api.Proc{proc(0, some(newPair(1), newPair(2), newPair(3), newPair(4), newPair(5), one(drop, drop, drop, drop, car, back))...)},
			result: []api.Word{number(29)}},
		{name: "a cell is handed on under a lock", cells: 4, locks: 1, global: 1, starts: []int{0, 0}, cycles: 1,
			procs: []api.Proc{proc(0, some(one(layInt(0), do(api.OpLock), drop), newPair(7), set(0), one(get(0), layInt(0), do(api.OpUnlock), drop, car, back))...)},
			// Each of both lays a pair of its own.
			result: []api.Word{number(7), number(7)}},
		{name: "an argument is overwritten", cells: 5, starts: []int{0}, cycles: 1,
			procs: []api.Proc{
				proc(0, some(one(do(api.OpClosure, 1)), newPair(6), one(do(api.OpTail, 1)))...),
				proc(1, some(newPair(7), one(do(api.OpSetVar, 0), drop, do(api.OpVar, 0), car, back))...)},
			result: []api.Word{number(7)}},
	}
}

// explore goes through all mixes of a small program: each actor that can go a step is picked in each state that is come to, and
// cycles are begun at any moment. How many states there are.
func (s small) explore(t *testing.T) int {
	const collect = -1
	code := coded(s.global, s.procs...)
	known := map[string]int{}
	paths := [][]int{nil}
	for len(paths) > 0 {
		path := paths[len(paths)-1]
		paths = paths[:len(paths)-1]
		x := newWatcher(t, api.Config{Cells: s.cells, Locks: s.locks}, code)
		for _, p := range s.starts {
			x.w.Start(p)
		}
		for i, actor := range path {
			if actor == collect {
				x.w.Collect()
				continue
			}
			x.goes(actor, i == len(path)-1)
		}
		key := x.key()
		if known[key] > 0 {
			continue
		}
		known[key] = 1
		s.ends(x)
		for _, actor := range x.w.Ready() {
			paths = append(paths, append(path[:len(path):len(path)], actor))
		}
		if _, begun := x.w.Phase(); begun < s.cycles && x.w.Collect() == api.OK {
			paths = append(paths, append(path[:len(path):len(path)], collect))
		}
	}
	return len(known)
}

// ends sees that each thread that has ended has done so as it is to; or was refused a cell.
func (s small) ends(x *watcher) {
	x.Helper()
	for n, want := range s.result {
		end, _ := x.w.Ended(n + 1)
		if end.Ended && want != 0 && end != (api.Ended{Ended: true, Word: want}) && end.Err != api.ErrNoCells {
			x.Fatalf("%s: thread %d: %+v", s.name, n+1, end)
		}
	}
}

// key is by which two states are told apart: what can be seen, how far each actor is, and what was told of gifts and refusals.
func (x *watcher) key() string {
	v := x.w.View()
	phase, begun := x.w.Phase()
	return sprint(v, phase, begun, x.w.Ready(), x.w.Waiting(), x.w.Free(), x.gifts, x.refused, x.asked, x.gone[1], x.gone[2], x.gone[3])
}

// TestEveryMix: small programs in all mixes of their threads and the collector; in each step of each, what is to hold holds.
func TestEveryMix(t *testing.T) {
	for _, s := range mixes() {
		t.Run(s.name, func(t *testing.T) {
			t.Parallel()
			if n := s.explore(t); n < 300 {
				t.Error(n, "states")
			} else {
				t.Log(n, "states")
			}
		})
	}
}
