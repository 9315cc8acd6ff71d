package model_test

import (
	"testing"

	"dapple/api"
	"dapple/model"
)

// example is the code of the chapter's examples, and of nothing else.
func example() api.Code {
	return api.Code{
		Consts: []api.Word{number(5), null()},
		Procs:  []api.Proc{proc(0, do(api.OpConst, 0), do(api.OpConst, 1), prim(api.PrimCons), prim(api.PrimCar), do(api.OpReturn))},
	}
}

func exampleDesk(t *testing.T) desk {
	t.Helper()
	m, e := model.New(0, example())
	if m == nil || e != api.OK {
		t.Fatal(m, e)
	}
	return desk{t, m}
}

// TestExample1: the chapter's first example.
func TestExample1(t *testing.T) {
	d := exampleDesk(t)
	if n, e := d.m.Start(0); n != 1 || e != api.OK {
		t.Error(n, e)
	}
	d.goes(1, api.Event{What: api.StepAlloc, Cell: 0, Old: number(5), New: null()})
	d.goes(1, api.Event{What: api.StepLoad, Cell: 0, Field: 0, Old: number(5), New: number(5)})
	d.goes(1, api.Event{What: api.StepEnd, New: number(5)})
	if x, e := d.m.Step(1); e != api.ErrModelForm || !same(x, api.Event{}) {
		t.Error(x, e)
	}
	d.heap(pair(number(5), null()))
	d.over(1, number(5), api.OK)
}

// TestExample2: the second one.
func TestExample2(t *testing.T) {
	d := exampleDesk(t)
	d.starts(0, 0)
	d.goes(2, allocs(0, number(5), null()))
	d.goes(1, allocs(1, number(5), null()))
	if e := d.m.Refuse(1); e != api.OK {
		t.Error(e)
	}
	d.goes(1, loads(1, 0, number(5)))
	d.goes(1, ends(number(5)))

	d = exampleDesk(t)
	d.starts(0)
	if e := d.m.Refuse(1); e != api.OK {
		t.Error(e)
	}
	d.goes(1, api.Event{What: api.StepEnd, Err: api.ErrNoCells})
	if e := d.m.Refuse(1); e != api.ErrModelForm {
		t.Error(e)
	}
}

// TestExample3: the third one.
func TestExample3(t *testing.T) {
	if m, e := model.New(9, example()); m != nil || e != api.ErrArg {
		t.Error(m, e)
	}
	d := exampleDesk(t)
	d.starts(0)
	if n, e := d.m.Start(1); n != 0 || e != api.ErrArg {
		t.Error(n, e)
	}
	if x, e := d.m.Step(3); !same(x, api.Event{}) || e != api.ErrModelForm {
		t.Error(x, e)
	}
	if x, e := d.m.Ended(3); x != (api.Ended{}) || e != api.ErrLocksNone {
		t.Error(x, e)
	}
}

// TestNumbersOfErrors: those that the chapter lists.
func TestNumbersOfErrors(t *testing.T) {
	for e, want := range map[api.Errno]int{api.ErrArg: 1, api.ErrModelForm: 220, api.ErrLocksMuch: 194, api.ErrLocksNone: 190, api.ErrNoCells: 121} {
		if int(e) != want {
			t.Error(e, want)
		}
	}
}
