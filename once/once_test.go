package once_test

import (
	"slices"
	"testing"

	"dapple/api"
	"dapple/code"
	"dapple/once"
)

// comesTo sees what a source comes to: its code by code.Text, which is empty with an error.
func comesTo(t *testing.T, c *once.Codes, source, text string, e api.Errno, place int) {
	t.Helper()
	made, e2, place2 := c.Get(source)
	if e2 != e || place2 != place {
		t.Errorf("Get %.100q: %d, %d, not %d, %d", source, e2, place2, e, place)
		return
	}
	if e != api.OK {
		if len(made.Consts)+len(made.Procs)+len(made.Globals) > 0 {
			t.Errorf("Get %.100q: %+v beside an error", source, made)
		}
		return
	}
	if got, e := code.Text(made); e != api.OK || got != text {
		t.Errorf("Get %.100q: %s, %d, not %s", source, got, e, text)
	}
}

// hasMade sees Made and Names.
func hasMade(t *testing.T, c *once.Codes, made int, names ...string) {
	t.Helper()
	if c.Made() != made || !slices.Equal(c.Names(), names) {
		t.Errorf("Made %d, Names %.300q, not %d, %.300q", c.Made(), c.Names(), made, names)
	}
}

// TestExampleOfCodes is the chapter's example 1.
func TestExampleOfCodes(t *testing.T) {
	c := once.New()
	hasMade(t, c, 0)
	const car = "global x\nproc 0\n global 0\n prim 2\n return\n"
	comesTo(t, c, "(car x)", car, api.OK, 0)
	comesTo(t, c, "(car x)", car, api.OK, 0)
	hasMade(t, c, 1)
	comesTo(t, c, "(car", "", api.ErrReadForm, 4)
	comesTo(t, c, "1 (if)", "", api.ErrFormsForm, 1)
	hasMade(t, c, 3)
	comesTo(t, c, "'(a b)", "const symbol 0\nconst symbol 1\nconst nil\nproc 0\n const 0\n const 1\n const 2\n prim 1\n prim 1\n return\n", api.OK, 0)
	hasMade(t, c, 4, "a", "b")
}

// TestExampleOfAll is example 2.
func TestExampleOfAll(t *testing.T) {
	c := once.New()
	l, errs := c.All(3, "'b", "'a", "'b", "(")
	if !slices.Equal(errs, []api.Errno{api.OK, api.OK, api.OK, api.ErrReadForm}) || len(l) != 4 {
		t.Fatal(l, errs)
	}
	for i, want := range []string{"const symbol 0\nproc 0\n const 0\n return\n", "const symbol 1\nproc 0\n const 0\n return\n", "const symbol 0\nproc 0\n const 0\n return\n"} {
		if text, e := code.Text(l[i]); text != want || e != api.OK {
			t.Error(i, text, e)
		}
	}
	if len(l[3].Consts)+len(l[3].Procs)+len(l[3].Globals) > 0 {
		t.Error(l[3], "beside an error")
	}
	hasMade(t, c, 3, "b", "a")
	if l, errs := c.All(0, "'c"); len(l) > 0 || len(errs) > 0 {
		t.Error(l, errs)
	}
	hasMade(t, c, 3, "b", "a")
}

// TestExampleOfFuture is example 3.
func TestExampleOfFuture(t *testing.T) {
	f := once.NewFuture()
	if f.Is() {
		t.Error("it is set")
	}
	if e := f.Set(85); e != api.OK {
		t.Error(e)
	}
	if e := f.Set(5); e != api.ErrOnceTwice {
		t.Error(e)
	}
	if w := f.Get(); w != 85 || !f.Is() {
		t.Error(w, f.Is())
	}
}

// TestExampleOfMade is example 4.
func TestExampleOfMade(t *testing.T) {
	l, errs, calls := once.Made(2, 3, func(n int) int64 {
		if n == 0 {
			panic("nought")
		}
		return int64(10 * n)
	}, 2, 0, 2, 7)
	if !slices.Equal(l, []int64{20, 0, 20, 0}) || !slices.Equal(calls, []int{1, 0, 1}) ||
		!slices.Equal(errs, []api.Errno{api.OK, api.ErrOncePanic, api.OK, api.ErrOnceForm}) {
		t.Error(l, errs, calls)
	}
}

// TestErrors: their numbers.
func TestErrors(t *testing.T) {
	if api.ErrOnceForm != 250 || api.ErrOncePanic != 251 || api.ErrOnceTwice != 252 {
		t.Error(api.ErrOnceForm, api.ErrOncePanic, api.ErrOnceTwice)
	}
}
