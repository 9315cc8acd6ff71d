package model_test

import (
	"math/rand"
	"slices"
	"testing"

	"dapple/api"
	"dapple/graph"
	"dapple/model"
	"dapple/show"
	"dapple/world"
)

// twins are a world and a model of the same code, locks and starts.
type twins struct {
	testing.TB
	w     *world.World
	m     *model.Model
	there map[int]int // the number in the model of each cell of the world that is not free
	count struct{ own, others, refusals, cycles, freed, alike, still int }
}

func newTwins(t testing.TB, c api.Config, code api.Code) *twins {
	t.Helper()
	w, e := world.New(c, code)
	m, err := model.New(c.Locks, code)
	if e != api.OK || err != api.OK {
		t.Fatal(e, err)
	}
	return &twins{TB: t, w: w, m: m, there: map[int]int{}}
}

// starts begins a thread of both, or of none.
func (x *twins) starts(proc int) {
	x.Helper()
	n, e := x.w.Start(proc)
	if k, err := x.m.Start(proc); k != n || err != e {
		x.Fatalf("Start(%d): %d, %d, not %d, %d", proc, k, err, n, e)
	}
}

// picks lets one of the world's actors go a step, and the model, if that is a step that is left. False: nobody can.
func (x *twins) picks(n uint32) bool {
	x.Helper()
	e, did := x.w.Pick(n)
	switch {
	case !did:
		return false
	case e.What == api.StepSweep && e.Yes:
		// What comes under that number now is another cell.
		delete(x.there, e.Cell)
		x.count.freed++
	case e.What == api.StepFinish:
		x.count.cycles++
	}
	if e.Actor == 0 || e.What == api.StepAck || e.What == api.StepWait {
		x.count.others++
	} else {
		x.follows(e)
	}
	x.alike()
	return true
}

// word is a word with the number that its cell has in the model.
func (x *twins) word(w api.Word) api.Word {
	x.Helper()
	if !isRef(w) {
		return w
	}
	n, ok := x.there[cellOf(w)]
	if !ok {
		x.Fatalf("cell %d is free", cellOf(w))
	}
	return ref(n)
}

// follows lets the model's thread go the same step.
func (x *twins) follows(want api.Event) {
	x.Helper()
	x.count.own++
	if want.What == api.StepEnd && want.Err == api.ErrNoCells {
		x.count.refusals++
		if e := x.m.Refuse(want.Actor); e != api.OK {
			x.Fatal(want, e)
		}
	}
	many := len(x.m.Heap())
	got, e := x.m.Step(want.Actor)
	if e != api.OK {
		x.Fatalf("%+v: %d", want, e)
	}
	if want.What == api.StepAlloc {
		if got.Cell != many || len(x.m.Heap()) != many+1 {
			x.Fatalf("%+v of %d cells", got, many)
		}
		x.there[want.Cell] = got.Cell
	}
	if want.What >= api.StepLoad && want.What <= api.StepAlloc {
		want.Cell = cellOf(x.word(ref(want.Cell)))
	}
	want.Shaded, want.Old, want.New = nil, x.word(want.Old), x.word(want.New)
	if !same(got, want) {
		x.Fatalf("%+v, not %+v", got, want)
	}
}

// alike sees that what can be seen of both looks alike.
func (x *twins) alike() {
	x.Helper()
	here, there := x.w.Heap(), x.m.Heap()
	for n := range x.w.Threads() + 1 {
		is, _ := x.w.Ended(n + 1)
		got, e := x.m.Ended(n + 1)
		if n == x.w.Threads() {
			if e != api.ErrLocksNone {
				x.Fatal("threads", n, e)
			}
			break
		}
		if e != api.OK || got.Ended != is.Ended || got.Err != is.Err {
			x.Fatalf("thread %d: %+v, %d, not %+v", n+1, got, e, is)
		}
		if is.Word != 0 || got.Word != 0 {
			x.same(here, is.Word, there, got.Word)
		}
	}
	globals := x.m.Globals()
	if len(globals) != len(x.w.Globals()) {
		x.Fatal(globals)
	}
	for i, g := range x.w.Globals() {
		x.same(here, g, there, globals[i])
	}
	x.live(here, there)
	x.still()
}

// same sees that two words are the same, but for their cells' numbers, and look alike.
func (x *twins) same(here []api.Cell, v api.Word, there []api.Cell, w api.Word) {
	x.Helper()
	x.count.alike++
	if ok, e := show.Alike(here, v, there, w); !ok || e != api.OK || w != x.word(v) {
		x.Fatalf("%d in %v and %d in %v: %t, %d", v, here, w, there, ok, e)
	}
}

// live sees that each live cell has a number of its own in the model, and is the same there.
func (x *twins) live(here, there []api.Cell) {
	x.Helper()
	reached, e := graph.Reach(here, x.w.Roots()...)
	if e != api.OK {
		x.Fatal(e)
	}
	taken := map[int]int{}
	for n, is := range reached {
		if !is {
			continue
		}
		k, ok := x.there[n]
		taken[k]++
		a := here[n]
		if !ok || taken[k] > 1 || there[k] != (api.Cell{Kind: a.Kind, A: x.word(a.A), B: x.word(a.B)}) {
			x.Fatalf("cell %d: %+v, not %+v", n, there[k], a)
		}
	}
}

// still sees that a thread of the world that waits for no cell, and can go no step, can't in the model; the others could.
func (x *twins) still() {
	x.Helper()
	ready := x.w.Ready()
	for n := 1; n <= x.w.Threads(); n++ {
		waits := slices.ContainsFunc(x.w.Waiting(), func(y api.Waiter) bool { return y.Thread == n })
		if waits || slices.Contains(ready, n) {
			continue
		}
		x.count.still++
		if e, err := x.m.Step(n); err != api.ErrModelForm || !same(e, api.Event{}) {
			x.Fatalf("Step(%d): %+v, %d", n, e, err)
		}
	}
}

// drift draws what comes next of a world: eager is of 8 picks, by phases, how many are the collector's; often, how seldom a cycle
// is asked for.
type drift struct {
	*rand.Rand
	eager [4]int
	often int
}

func newDrift(r *rand.Rand) drift {
	d := drift{Rand: r, often: 1 + r.Intn(60)}
	for i := range d.eager {
		d.eager[i] = r.Intn(8)
	}
	return d
}

// goes lets something come; false, if nothing can come any more.
func (d drift) goes(x *twins) bool {
	x.Helper()
	if d.Intn(100) == 0 {
		x.starts(d.Intn(6) - 1)
	}
	if d.Intn(d.often) == 0 {
		x.w.Collect()
	}
	ready := x.w.Ready()
	if len(ready) == 0 {
		return x.w.Collect() == api.OK
	}
	at := d.Intn(len(ready))
	if phase, _ := x.w.Phase(); ready[0] == 0 && d.Intn(8) < d.eager[phase] {
		at = 0
	}
	return x.picks(uint32(at))
}

// drawnConfig is a world for so many locks, often a small one.
func drawnConfig(r *rand.Rand, locks int) api.Config {
	c := api.Config{Cells: 20 + r.Intn(40), Locks: locks}
	if r.Intn(3) == 0 {
		c.Cells = 4 + r.Intn(16)
	}
	return c
}

// TestTheCollectorIsNotSeen: what is left of drawn worlds, when the collector's steps are taken away, each StepAck and StepWait, is
// what a model tells, but for what is shaded and for cells' numbers; also behind refusals.
func TestTheCollectorIsNotSeen(t *testing.T) {
	t.Parallel()
	var all twins
	for seed := range int64(450) {
		r := rand.New(rand.NewSource(seed + 90000))
		locks, code := drawn(r)
		x := newTwins(t, drawnConfig(r, locks), code)
		for range 1 + r.Intn(4) {
			x.starts(mainProc)
		}
		d := newDrift(r)
		for range 350 {
			d.goes(x)
		}
		all.count.own += x.count.own
		all.count.others += x.count.others
		all.count.refusals += x.count.refusals
		all.count.cycles += x.count.cycles
		all.count.freed += x.count.freed
		all.count.alike += x.count.alike
		all.count.still += x.count.still
	}
	if n := all.count; n.own < 30000 || n.others < 30000 || n.refusals < 200 || n.cycles < 500 || n.freed < 2000 || n.alike < 300000 || n.still < 30000 {
		t.Errorf("%+v", n)
	}
}

// TestUnseenInTheMidst: the document's dangers, with a cycle begun at each moment, on few cells: a reference that goes through the
// stack, over the only cell that names it; two threads that give and take.
func TestUnseenInTheMidst(t *testing.T) {
	t.Parallel()
	get, set := func(i int) api.Instr { return do(api.OpGlobal, i) }, func(i int) []api.Instr { return one(do(api.OpSetGlobal, i), do(api.OpPop)) }
	car := prim(api.PrimCar)
	programs := [][]api.Proc{
		{proc(0, some(newPair(7), one(prim(api.PrimBox)), set(0), one(get(0), prim(api.PrimUnbox), get(0), layNil(), prim(api.PrimSetBox), do(api.OpPop), car), ret())...)},
		{proc(0, some(newPair(0), set(0), one(get(0)), newPair(7), one(prim(api.PrimSetCar), do(api.OpPop), get(0), car, car), ret())...)},
		{proc(0, some(newPair(7), set(0), newPair(8), set(0), newPair(9), ret())...), proc(0, some(one(layNil()), set(0), one(get(0)), newPair(1), one(prim(api.PrimCons)), ret())...)},
		{proc(0, some(newPair(1), newPair(2), one(prim(api.PrimCons)), newPair(3), one(prim(api.PrimCons)), ret())...), proc(0, some(join(1), newPair(4), one(prim(api.PrimCons)), ret())...)},
	}
	for i, procs := range programs {
		for at := range 24 {
			for again := range 6 {
				for seed := range int64(4) {
					r := rand.New(rand.NewSource(seed))
					x := newTwins(t, api.Config{Cells: 4 + int(seed)%2}, coded(1, procs...))
					for p := range procs {
						x.starts(p)
					}
					for n := range 60 {
						if n == at || n == at+1+again*3 {
							x.w.Collect()
						}
						if !x.picks(r.Uint32()) && x.w.Collect() != api.OK {
							t.Fatal(i, at, seed)
						}
					}
				}
			}
		}
	}
}

// TestUnseenPrograms: whole programs on few cells, with cycles as often as can be, end as in a model whose threads go in that order;
// and a model alone comes to the same, whoever goes first.
func TestUnseenPrograms(t *testing.T) {
	t.Parallel()
	cycles, freed := 0, 0
	for _, row := range programs() {
		code := compiled(t, row.source)
		for seed := range int64(3) {
			r := rand.New(rand.NewSource(seed))
			x := newTwins(t, api.Config{Cells: row.cells, Locks: 1}, code)
			x.starts(0)
			for n := range 20000 {
				if end, _ := x.w.Ended(1); end.Ended {
					break
				}
				if n%(1+int(seed)*20) == 0 {
					x.w.Collect()
				}
				x.picks(r.Uint32())
			}
			end, _ := x.m.Ended(1)
			if got := shown(t, x.m.Heap(), end.Word); !end.Ended || end.Err != api.OK || got != row.want {
				t.Fatalf("%s: %q, not %q (%+v)", row.source, got, row.want, end)
			}
			cycles, freed = cycles+x.count.cycles, freed+x.count.freed
		}
	}
	if cycles < 50 || freed < 100 {
		t.Error(cycles, freed)
	}
}
