package world_test

import (
	"fmt"
	"reflect"
	"slices"
	"testing"

	"dapple/api"
	"dapple/code"
	"dapple/words"
	"dapple/world"
)

// number is the word of an integer.
func number(n int64) api.Word { return tagged(api.TagInt, n) }

// sole is the word of a tag that has one alone.
func sole(t api.Tag) api.Word { return tagged(t, 0) }

func tagged(t api.Tag, n int64) api.Word {
	w, _ := words.Make(t, n)
	return w
}

func null() api.Word         { return sole(api.TagNil) }
func nothing() api.Word      { return sole(api.TagNone) }
func ref(cell int) api.Word  { return words.Ref(cell) }
func isRef(w api.Word) bool  { _, ok := words.Cell(w); return ok }
func cellOf(w api.Word) int  { cell, _ := words.Cell(w); return cell }
func isUsed(c api.Cell) bool { return c.Kind != api.KindFree }
func isOn(p api.Phase) bool  { return p == api.PhaseRoots || p == api.PhaseMark }

// pool are constants, which each code of these tests has: the integers from -1 to 29 stand first.
func pool() []api.Word {
	var l []api.Word
	for n := range int64(31) {
		l = append(l, number(n-1))
	}
	return append(l, null(), sole(api.TagFalse), sole(api.TagTrue), nothing(), tagged(api.TagSymbol, 3), tagged(api.TagPrim, 3), number(1<<59-1))
}

// do is an instruction; of some the number is 0, and can be left out.
func do(op api.Op, a ...int) api.Instr {
	if len(a) == 0 {
		return api.Instr{Op: op}
	}
	return api.Instr{Op: op, A: a[0]}
}

// lay is the instruction that pushes a word of the pool.
func lay(w api.Word) api.Instr {
	i := slices.Index(pool(), w)
	if i < 0 {
		panic("no constant")
	}
	return do(api.OpConst, i)
}

func layInt(n int64) api.Instr  { return lay(number(n)) }
func layNil() api.Instr         { return lay(null()) }
func prim(p api.Prim) api.Instr { return do(api.OpPrim, int(p)) }

// some are instructions, one behind the other.
func some(l ...[]api.Instr) []api.Instr { return slices.Concat(l...) }

// one is a list of some.
func one(l ...api.Instr) []api.Instr { return l }

// proc is a procedure.
func proc(params int, l ...api.Instr) api.Proc { return api.Proc{Params: params, Code: l} }

// coded is code with the pool, and so many globals.
func coded(globals int, procs ...api.Proc) api.Code {
	c := api.Code{Consts: pool(), Procs: procs}
	for i := range globals {
		c.Globals = append(c.Globals, fmt.Sprintf("g%d", i))
	}
	return c
}

// consing is the code of the examples: 5 and nil are consed, the pair's car is answered.
func consing() api.Proc {
	return proc(0, layInt(5), layNil(), prim(api.PrimCons), prim(api.PrimCar), do(api.OpReturn))
}

// turning goes on for ever, a breath a step.
func turning() api.Proc { return proc(0, do(api.OpYield), do(api.OpPop), do(api.OpJump, 0)) }

// keeping makes a pair of n and nil, and goes on for ever with it on the stack.
func keeping(n int64) api.Proc {
	return proc(0, layInt(n), layNil(), prim(api.PrimCons), do(api.OpYield), do(api.OpPop), do(api.OpJump, 3))
}

// face is what a world can be asked.
type face interface {
	Start(proc int) (int, api.Errno)
	Collect() api.Errno
	Ready() []int
	Pick(n uint32) (api.Event, bool)
	Settle(most int) int
	Steps() int
	Phase() (api.Phase, int)
	Heap() []api.Cell
	Free() []int
	Waiting() []api.Waiter
	Roots() []api.Word
	Globals() []api.Word
	Ended(thread int) (api.Ended, api.Errno)
	Threads() int
	View() api.View
}

// sight is all that can be seen of a world.
type sight struct {
	ready   []int
	steps   int
	threads int
	phase   api.Phase
	begun   int
	heap    []api.Cell
	free    []int
	waiting []api.Waiter
	roots   []api.Word
	globals []api.Word
	ended   [api.MaxThreads + 2]api.Ended
	errs    [api.MaxThreads + 2]api.Errno
	view    api.View
}

func seen(w face) sight {
	s := sight{ready: w.Ready(), steps: w.Steps(), threads: w.Threads(), heap: w.Heap(), free: w.Free(), waiting: w.Waiting(), roots: w.Roots(), globals: w.Globals(), view: w.View()}
	s.phase, s.begun = w.Phase()
	for i := range s.ended {
		s.ended[i], s.errs[i] = w.Ended(i)
	}
	return s
}

// differs is what is not the same in two sights; nothing, if all is.
func (s sight) differs(o sight) string {
	switch {
	case !slices.Equal(s.ready, o.ready):
		return fmt.Sprint("ready ", s.ready, o.ready)
	case s.steps != o.steps || s.threads != o.threads || s.phase != o.phase || s.begun != o.begun:
		return fmt.Sprint("steps, threads, phase, begun ", s.steps, s.threads, s.phase, s.begun, "; ", o.steps, o.threads, o.phase, o.begun)
	case !slices.Equal(s.heap, o.heap):
		return fmt.Sprint("heap ", s.heap, o.heap)
	case !slices.Equal(s.free, o.free):
		return fmt.Sprint("free ", s.free, o.free)
	case !slices.Equal(s.waiting, o.waiting):
		return fmt.Sprint("waiting ", s.waiting, o.waiting)
	case !slices.Equal(s.roots, o.roots):
		return fmt.Sprint("roots ", s.roots, o.roots)
	case !slices.Equal(s.globals, o.globals):
		return fmt.Sprint("globals ", s.globals, o.globals)
	case s.ended != o.ended || s.errs != o.errs:
		return fmt.Sprint("ended ", s.ended, s.errs, o.ended, o.errs)
	case !sameView(s.view, o.view):
		return fmt.Sprintf("view %+v, %+v", s.view, o.view)
	}
	return ""
}

// sameView tells whether two views are the same; no list is an empty one.
func sameView(a, b api.View) bool {
	return slices.Equal(a.Cells, b.Cells) && a.Phase == b.Phase && a.Swept == b.Swept && slices.Equal(a.Grey, b.Grey) &&
		slices.Equal(a.Globals, b.Globals) && a.Laid == b.Laid && slices.EqualFunc(a.Lanes, b.Lanes, sameLane)
}

func sameLane(a, b api.Lane) bool {
	return slices.Equal(a.Roots, b.Roots) && a.Scanned == b.Scanned && a.Ended == b.Ended
}

// same tells whether two events are the same; no list is an empty one.
func same(a, b api.Event) bool {
	ok := slices.Equal(a.Shaded, b.Shaded)
	a.Shaded, b.Shaded = nil, nil
	return ok && reflect.DeepEqual(a, b)
}

// desk has a world, and sees that it answers what it is told.
type desk struct {
	*testing.T
	*world.World
}

// newDesk is one of so many cells, locks and globals, and of these procedures.
func newDesk(t *testing.T, cells, locks, globals int, procs ...api.Proc) desk {
	t.Helper()
	c := coded(globals, procs...)
	if e, p, at := code.Check(c); e != api.OK {
		t.Fatalf("code that may not be: %d, %d, %d: %v", e, p, at, procs)
	}
	w, e := world.New(api.Config{Cells: cells, Locks: locks}, c)
	if e != api.OK || w == nil {
		t.Fatal(w, e)
	}
	return desk{t, w}
}

// starts begins a thread of each of these procedures.
func (d desk) starts(procs ...int) {
	d.Helper()
	for _, p := range procs {
		want := d.Threads() + 1
		if n, e := d.Start(p); n != want || e != api.OK {
			d.Fatalf("Start(%d): %d, %d", p, n, e)
		}
	}
}

// collects asks for a cycle.
func (d desk) collects() {
	d.Helper()
	if e := d.Collect(); e != api.OK {
		d.Fatal("Collect:", e)
	}
}

// pick lets that actor go a step.
func (d desk) pick(actor int) api.Event {
	d.Helper()
	return picked(d, d, actor)
}

// picked lets an actor of a world go a step.
func picked(t testing.TB, w face, actor int) api.Event {
	t.Helper()
	at := slices.Index(w.Ready(), actor)
	if at < 0 {
		t.Fatalf("%d can't go a step: ready are %v", actor, w.Ready())
	}
	e, did := w.Pick(uint32(at))
	if !did || e.Actor != actor {
		t.Fatalf("Pick of %d: %+v, %t", actor, e, did)
	}
	return e
}

// goes lets an actor go a step, which must be that; its Actor is not to be told.
func (d desk) goes(actor int, want api.Event) {
	d.Helper()
	steps := d.Steps()
	want.Actor = actor
	if got := d.pick(actor); !same(got, want) {
		d.Errorf("%+v, not %+v", got, want)
	}
	if d.Steps() != steps+1 {
		d.Errorf("Steps %d behind %d", d.Steps(), steps)
	}
}

// skips lets an actor go steps, which must be of these kinds, and no error's.
func (d desk) skips(actor int, want ...api.What) {
	d.Helper()
	for i, what := range want {
		if got := d.pick(actor); got.What != what || got.Err != api.OK {
			d.Fatalf("step %d: %+v, not %d", i, got, what)
		}
	}
}

// till lets an actor go steps, up to and with one of that kind, which is told.
func (d desk) till(actor int, what api.What) api.Event {
	d.Helper()
	for range 20000 {
		if e := d.pick(actor); e.What == what {
			return e
		}
	}
	d.Fatalf("no step %d of %d", what, actor)
	return api.Event{}
}

func (d desk) ready(want ...int) {
	d.Helper()
	if got := d.Ready(); !slices.Equal(got, want) {
		d.Errorf("ready %v, not %v", got, want)
	}
}

func (d desk) free(want ...int) {
	d.Helper()
	if got := d.Free(); !slices.Equal(got, want) {
		d.Errorf("free %v, not %v", got, want)
	}
}

func (d desk) waiting(want ...api.Waiter) {
	d.Helper()
	if got := d.Waiting(); !slices.Equal(got, want) {
		d.Errorf("waiting %v, not %v", got, want)
	}
}

func (d desk) roots(want ...api.Word) {
	d.Helper()
	if got := d.Roots(); !slices.Equal(got, want) {
		d.Errorf("roots %v, not %v", got, want)
	}
}

func (d desk) globals(want ...api.Word) {
	d.Helper()
	if got := d.Globals(); !slices.Equal(got, want) {
		d.Errorf("globals %v, not %v", got, want)
	}
}

func (d desk) phase(p api.Phase, begun int) {
	d.Helper()
	if got, n := d.Phase(); got != p || n != begun {
		d.Errorf("phase %d, %d, not %d, %d", got, n, p, begun)
	}
}

func (d desk) cell(n int, want api.Cell) {
	d.Helper()
	if got := d.Heap()[n]; got != want {
		d.Errorf("cell %d: %+v, not %+v", n, got, want)
	}
}

// colours are those of the first cells.
func (d desk) colours(want ...api.Colour) {
	d.Helper()
	for n, c := range want {
		if got := d.Heap()[n].Colour; got != c {
			d.Errorf("cell %d has colour %d, not %d", n, got, c)
		}
	}
}

// over sees that a thread has ended, with that word or by that error.
func (d desk) over(thread int, w api.Word, e api.Errno) {
	d.Helper()
	got, err := d.Ended(thread)
	if err != api.OK || got != (api.Ended{Ended: true, Word: w, Err: e}) {
		d.Errorf("thread %d: %+v, %d, not %d, %d", thread, got, err, w, e)
	}
}

// going sees that threads have not ended.
func (d desk) going(threads ...int) {
	d.Helper()
	for _, n := range threads {
		if got, err := d.Ended(n); err != api.OK || got != (api.Ended{}) {
			d.Errorf("thread %d: %+v, %d", n, got, err)
		}
	}
}

// changesNothing sees that what is done can't be seen.
func (d desk) changesNothing(what func()) {
	d.Helper()
	was := seen(d)
	what()
	if s := was.differs(seen(d)); s != "" {
		d.Error("changed: ", s)
	}
}

// loads is the event of a LOAD.
func loads(cell, field int, w api.Word) api.Event {
	return api.Event{What: api.StepLoad, Cell: cell, Field: field, Old: w, New: w}
}

// allocs is the event of an ALLOC.
func allocs(cell int, a, b api.Word, shaded ...int) api.Event {
	return api.Event{What: api.StepAlloc, Cell: cell, Old: a, New: b, Shaded: shaded}
}

// stores is the event of a STORE.
func stores(cell, field int, old, next api.Word, shaded ...int) api.Event {
	return api.Event{What: api.StepStore, Cell: cell, Field: field, Old: old, New: next, Shaded: shaded}
}

// finds is the event of a GLOBAL.
func finds(i int, w api.Word) api.Event {
	return api.Event{What: api.StepGlobal, Other: i, Old: w, New: w}
}

// sets is the event of a SETGLOBAL.
func sets(i int, old, next api.Word, shaded ...int) api.Event {
	return api.Event{What: api.StepSetGlobal, Other: i, Old: old, New: next, Shaded: shaded}
}

// ends is the event of an end with a word; fails of one by an error.
func ends(w api.Word) api.Event { return api.Event{What: api.StepEnd, New: w} }

func fails(e api.Errno) api.Event { return api.Event{What: api.StepEnd, Err: e} }

// breath is the event of a breath.
func breath() api.Event { return api.Event{What: api.StepBreath} }

// acks is the event of a thread that lays its roots.
func acks(shaded ...int) api.Event { return api.Event{What: api.StepAck, Shaded: shaded} }

// of is the event of a step with a number: of a lock, of another thread, of a global.
func of(what api.What, other int, shaded ...int) api.Event {
	return api.Event{What: what, Other: other, Shaded: shaded}
}

// scans is the event of the collector that looks into a cell.
func scans(cell int, shaded ...int) api.Event {
	return api.Event{What: api.StepScan, Cell: cell, Shaded: shaded}
}

// checks is the event of its check.
func checks() api.Event { return api.Event{What: api.StepCheck} }

// keeps is the event of a sweep of a cell that stays; frees of one that is given back, to a thread or to the free ones.
func keeps(cell int) api.Event { return api.Event{What: api.StepSweep, Cell: cell} }

func frees(cell, to int) api.Event {
	return api.Event{What: api.StepSweep, Cell: cell, Yes: true, Other: to}
}

// pair is a cell.
func pair(c api.Colour, a, b api.Word) api.Cell {
	return api.Cell{Kind: api.KindPair, Colour: c, A: a, B: b}
}

func box(c api.Colour, a api.Word) api.Cell {
	return api.Cell{Kind: api.KindBox, Colour: c, A: a, B: null()}
}

// reached are the cells of a heap that words reach, over those that may be passed.
func reached(h []api.Cell, may func(api.Cell) bool, from ...api.Word) []bool {
	out := make([]bool, len(h))
	var visit func(w api.Word)
	visit = func(w api.Word) {
		cell, ok := words.Cell(w)
		if !ok || cell >= len(h) || out[cell] || !may(h[cell]) {
			return
		}
		out[cell] = true
		visit(h[cell].A)
		visit(h[cell].B)
	}
	for _, w := range from {
		visit(w)
	}
	return out
}

// live are the cells that all threads' roots and all globals reach.
func live(w face) []bool { return reached(w.Heap(), isUsed, w.Roots()...) }

// sprint is the text of all of these.
func sprint(l ...any) string { return fmt.Sprintln(l...) }
