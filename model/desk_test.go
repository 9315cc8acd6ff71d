package model_test

import (
	"fmt"
	"reflect"
	"slices"
	"testing"

	"dapple/api"
	"dapple/code"
	"dapple/compile"
	"dapple/forms"
	"dapple/model"
	"dapple/names"
	"dapple/read"
	"dapple/show"
	"dapple/words"
)

// number is the word of an integer.
func number(n int64) api.Word { return tagged(api.TagInt, n) }

// sole is the word of a tag that has one alone.
func sole(t api.Tag) api.Word { return tagged(t, 0) }

func tagged(t api.Tag, n int64) api.Word {
	w, _ := words.Make(t, n)
	return w
}

func null() api.Word        { return sole(api.TagNil) }
func nothing() api.Word     { return sole(api.TagNone) }
func ref(cell int) api.Word { return words.Ref(cell) }
func isRef(w api.Word) bool { _, ok := words.Cell(w); return ok }
func cellOf(w api.Word) int { cell, _ := words.Cell(w); return cell }

// pool are constants, which each code of these tests has: the integers from -1 to 29 stand first.
func pool() []api.Word {
	var l []api.Word
	for n := range int64(31) {
		l = append(l, number(n-1))
	}
	return append(l, null(), sole(api.TagFalse), sole(api.TagTrue), nothing(), tagged(api.TagSymbol, 3), tagged(api.TagPrim, 3), number(1<<59-1))
}

// do is an instruction; of some the number is 0, and can be left out.
func do(op api.Op, a ...int) api.Instr {
	if len(a) == 0 {
		return api.Instr{Op: op}
	}
	return api.Instr{Op: op, A: a[0]}
}

// lay is the instruction that pushes a word of the pool.
func lay(w api.Word) api.Instr {
	i := slices.Index(pool(), w)
	if i < 0 {
		panic("no constant")
	}
	return do(api.OpConst, i)
}

func layInt(n int64) api.Instr  { return lay(number(n)) }
func layNil() api.Instr         { return lay(null()) }
func prim(p api.Prim) api.Instr { return do(api.OpPrim, int(p)) }

// some are instructions, one behind the other.
func some(l ...[]api.Instr) []api.Instr { return slices.Concat(l...) }

// one is a list of some.
func one(l ...api.Instr) []api.Instr { return l }

// ret gives back what is on the stack.
func ret() []api.Instr { return one(do(api.OpReturn)) }

// take and give are a lock's taking and its handing on.
func take(n int64) []api.Instr { return one(layInt(n), do(api.OpLock), do(api.OpPop)) }
func give(n int64) []api.Instr { return one(layInt(n), do(api.OpUnlock), do(api.OpPop)) }

// join waits for a thread's end.
func join(n int64) []api.Instr { return one(layInt(n), do(api.OpJoin)) }

// newPair puts a pair of n and nil on the stack.
func newPair(n int64) []api.Instr { return one(layInt(n), layNil(), prim(api.PrimCons)) }

// pause is a breath.
func pause() []api.Instr { return one(do(api.OpYield), do(api.OpPop)) }

// proc is a procedure.
func proc(params int, l ...api.Instr) api.Proc { return api.Proc{Params: params, Code: l} }

// coded is code with the pool, and so many globals.
func coded(globals int, procs ...api.Proc) api.Code {
	c := api.Code{Consts: pool(), Procs: procs}
	for i := range globals {
		c.Globals = append(c.Globals, fmt.Sprintf("g%d", i))
	}
	return c
}

// consing is the code of the examples: 5 and nil are consed, the pair's car is answered.
func consing() api.Proc {
	return proc(0, some(newPair(5), one(prim(api.PrimCar)), ret())...)
}

// turning goes on for ever, a breath a step.
func turning() api.Proc { return proc(0, do(api.OpYield), do(api.OpPop), do(api.OpJump, 0)) }

// compiled is a source's code.
func compiled(t testing.TB, source string) api.Code {
	t.Helper()
	l, e, at := read.Read(source)
	if e != api.OK {
		t.Fatal(source, e, at)
	}
	var fs []api.Form
	for _, x := range l {
		f, e, path := forms.Of(x)
		if e != api.OK {
			t.Fatal(source, e, path)
		}
		fs = append(fs, f)
	}
	table, _ := names.New()
	c, e, form := compile.Compile(table, fs...)
	if e != api.OK {
		t.Fatal(source, e, form)
	}
	return c
}

// shown is the text of a word, of a heap without symbols.
func shown(t testing.TB, h []api.Cell, x api.Word) string {
	t.Helper()
	if x == 0 {
		return ""
	}
	s, e := show.Show(h, nil, x)
	if e != api.OK {
		t.Fatal(x, e)
	}
	return s
}

// face is what a model can be asked.
type face interface {
	Start(proc int) (int, api.Errno)
	Step(thread int) (api.Event, api.Errno)
	Refuse(thread int) api.Errno
	Ended(thread int) (api.Ended, api.Errno)
	Globals() []api.Word
	Heap() []api.Cell
}

// sight is all that can be seen of a model, without changing it.
type sight struct {
	globals []api.Word
	heap    []api.Cell
	ended   [api.MaxThreads + 2]api.Ended
	errs    [api.MaxThreads + 2]api.Errno
}

func seen(m face) sight {
	s := sight{globals: m.Globals(), heap: m.Heap()}
	for i := range s.ended {
		s.ended[i], s.errs[i] = m.Ended(i)
	}
	return s
}

// differs is what is not the same in two sights; nothing, if all is.
func (s sight) differs(o sight) string {
	switch {
	case !slices.Equal(s.globals, o.globals):
		return fmt.Sprint("globals ", s.globals, o.globals)
	case !slices.Equal(s.heap, o.heap):
		return fmt.Sprint("heap ", s.heap, o.heap)
	case s.ended != o.ended || s.errs != o.errs:
		return fmt.Sprint("ended ", s.ended, s.errs, o.ended, o.errs)
	}
	return ""
}

// threads is how many a model has.
func threads(m face) int {
	for n := 0; ; n++ {
		if _, e := m.Ended(n + 1); e != api.OK {
			return n
		}
	}
}

// same tells whether two events are the same; no list is an empty one.
func same(a, b api.Event) bool {
	ok := slices.Equal(a.Shaded, b.Shaded)
	a.Shaded, b.Shaded = nil, nil
	return ok && reflect.DeepEqual(a, b)
}

// desk has a model, and sees that it answers what it is told.
type desk struct {
	testing.TB
	m *model.Model
}

// newDesk is one of so many locks and globals, and of these procedures.
func newDesk(t testing.TB, locks, globals int, procs ...api.Proc) desk {
	t.Helper()
	c := coded(globals, procs...)
	if e, p, at := code.Check(c); e != api.OK {
		t.Fatalf("code that may not be: %d, %d, %d: %v", e, p, at, procs)
	}
	m, e := model.New(locks, c)
	if e != api.OK || m == nil {
		t.Fatal(m, e)
	}
	return desk{t, m}
}

// starts begins a thread of each of these procedures.
func (d desk) starts(procs ...int) {
	d.Helper()
	for _, p := range procs {
		want := threads(d.m) + 1
		if n, e := d.m.Start(p); n != want || e != api.OK {
			d.Fatalf("Start(%d): %d, %d", p, n, e)
		}
	}
}

// step lets a thread go a step.
func (d desk) step(thread int) api.Event {
	d.Helper()
	x, e := d.m.Step(thread)
	if e != api.OK || x.Actor != thread {
		d.Fatalf("Step(%d): %+v, %d", thread, x, e)
	}
	return x
}

// goes lets a thread go a step, which must be that; its Actor is not to be told.
func (d desk) goes(thread int, want api.Event) {
	d.Helper()
	want.Actor = thread
	if got := d.step(thread); !same(got, want) {
		d.Errorf("%+v, not %+v", got, want)
	}
}

// skips lets a thread go steps, which must be of these kinds, and no error's.
func (d desk) skips(thread int, want ...api.What) {
	d.Helper()
	for i, what := range want {
		if got := d.step(thread); got.What != what || got.Err != api.OK {
			d.Fatalf("step %d: %+v, not %d", i, got, what)
		}
	}
}

// stands sees that threads go no step, and that nothing comes of asking them to.
func (d desk) stands(threads ...int) {
	d.Helper()
	d.changesNothing(func() {
		for _, n := range threads {
			if x, e := d.m.Step(n); e != api.ErrModelForm || !same(x, api.Event{}) {
				d.Errorf("Step(%d): %+v, %d", n, x, e)
			}
		}
	})
}

// refuses refuses threads their next cells, and sees that nothing is seen of it.
func (d desk) refuses(threads ...int) {
	d.Helper()
	d.changesNothing(func() {
		for _, n := range threads {
			if e := d.m.Refuse(n); e != api.OK {
				d.Errorf("Refuse(%d): %d", n, e)
			}
		}
	})
}

// refusesNot sees that threads can't be refused one.
func (d desk) refusesNot(threads ...int) {
	d.Helper()
	d.changesNothing(func() {
		for _, n := range threads {
			if e := d.m.Refuse(n); e != api.ErrModelForm {
				d.Errorf("Refuse(%d): %d", n, e)
			}
		}
	})
}

func (d desk) heap(want ...api.Cell) {
	d.Helper()
	if got := d.m.Heap(); !slices.Equal(got, want) {
		d.Errorf("heap %v, not %v", got, want)
	}
}

func (d desk) globals(want ...api.Word) {
	d.Helper()
	if got := d.m.Globals(); !slices.Equal(got, want) {
		d.Errorf("globals %v, not %v", got, want)
	}
}

// over sees that a thread has ended, with that word or by that error.
func (d desk) over(thread int, w api.Word, e api.Errno) {
	d.Helper()
	got, err := d.m.Ended(thread)
	if err != api.OK || got != (api.Ended{Ended: true, Word: w, Err: e}) {
		d.Errorf("thread %d: %+v, %d, not %d, %d", thread, got, err, w, e)
	}
}

// going sees that threads have not ended.
func (d desk) going(threads ...int) {
	d.Helper()
	for _, n := range threads {
		if got, err := d.m.Ended(n); err != api.OK || got != (api.Ended{}) {
			d.Errorf("thread %d: %+v, %d", n, got, err)
		}
	}
}

// changesNothing sees that what is done can't be seen.
func (d desk) changesNothing(what func()) {
	d.Helper()
	was := seen(d.m)
	what()
	if s := was.differs(seen(d.m)); s != "" {
		d.Error("changed: ", s)
	}
}

// loads is the event of a LOAD.
func loads(cell, field int, w api.Word) api.Event {
	return api.Event{What: api.StepLoad, Cell: cell, Field: field, Old: w, New: w}
}

// allocs is the event of an ALLOC.
func allocs(cell int, a, b api.Word) api.Event {
	return api.Event{What: api.StepAlloc, Cell: cell, Old: a, New: b}
}

// stores is the event of a STORE.
func stores(cell, field int, old, next api.Word) api.Event {
	return api.Event{What: api.StepStore, Cell: cell, Field: field, Old: old, New: next}
}

// finds is the event of a GLOBAL.
func finds(i int, w api.Word) api.Event {
	return api.Event{What: api.StepGlobal, Other: i, Old: w, New: w}
}

// sets is the event of a SETGLOBAL.
func sets(i int, old, next api.Word) api.Event {
	return api.Event{What: api.StepSetGlobal, Other: i, Old: old, New: next}
}

// joins is the event of a JOIN that is told a result.
func joins(thread int, w api.Word) api.Event {
	return api.Event{What: api.StepJoin, Other: thread, New: w}
}

// ends is the event of an end with a word; fails of one by an error.
func ends(w api.Word) api.Event { return api.Event{What: api.StepEnd, New: w} }

func fails(e api.Errno) api.Event { return api.Event{What: api.StepEnd, Err: e} }

// breath is the event of a breath.
func breath() api.Event { return api.Event{What: api.StepBreath} }

// of is the event of a step with a number: of a lock, of another thread.
func of(what api.What, other int) api.Event { return api.Event{What: what, Other: other} }

// pair, box and closure are cells.
func pair(a, b api.Word) api.Cell { return api.Cell{Kind: api.KindPair, A: a, B: b} }

func box(a api.Word) api.Cell { return api.Cell{Kind: api.KindBox, A: a, B: null()} }

func closure(proc int64, env api.Word) api.Cell {
	return api.Cell{Kind: api.KindClosure, A: number(proc), B: env}
}
