package model_test

import (
	"math/rand"
	"testing"

	"dapple/api"
	"dapple/model"
)

// met counts what drawn models met, so that a test can see that they met it all.
type met struct {
	steps, still, refused int
	whats                 map[api.What]int
	errs                  map[api.Errno]int
}

func newMet() *met { return &met{whats: map[api.What]int{}, errs: map[api.Errno]int{}} }

func (m *met) note(x move, a answer) {
	switch {
	case x.what == toStep && a.e == api.OK:
		m.steps++
		m.whats[a.event.What]++
		m.errs[a.event.Err]++
	case x.what == toStep:
		m.still++
	case x.what == toRefuse && a.e == api.OK:
		m.refused++
	}
}

// all sees that each kind of step, and each error that drawn code can come to, was met.
func (m *met) all(t *testing.T) {
	t.Helper()
	for what := api.StepLoad; what <= api.StepEnd; what++ {
		if never := what == api.StepWait || what == api.StepAck; never != (m.whats[what] == 0) {
			t.Error("steps of kind", what, ":", m.whats[what])
		}
	}
	for _, e := range []api.Errno{api.ErrNoCells, api.ErrLocksMuch, api.ErrLocksNone, api.ErrLocksSelf, api.ErrLocksNot, api.ErrWordKind, api.ErrVMRaised, api.ErrVMArgs, api.ErrVMUnset} {
		if m.errs[e] == 0 {
			t.Error("no error", e)
		}
	}
	if m.steps < 50000 || m.still < 5000 || m.refused < 500 {
		t.Error(m.steps, m.still, m.refused)
	}
}

// TestBoth: drawn models answer as the chapters tell it, once more, plainly; and look the same behind each call.
func TestBoth(t *testing.T) {
	t.Parallel()
	all := newMet()
	for seed := range int64(1500) {
		r := rand.New(rand.NewSource(seed))
		locks, code := drawn(r)
		m, e := model.New(locks, code)
		if e != api.OK {
			t.Fatal(seed, e)
		}
		p := newPlain(locks, code)
		from := newMover(r)
		for range 300 {
			x := from.next()
			got, want := made(m, x), made(p, x)
			if !got.same(want) {
				t.Fatalf("seed %d: %v: %+v, not %+v", seed, x, got, want)
			}
			if s := seen(m).differs(seen(p)); s != "" {
				t.Fatalf("seed %d: behind %v: %s", seed, x, s)
			}
			all.note(x, got)
		}
	}
	all.all(t)
}

// FuzzBoth: the same of any seed, with moves from the bytes.
func FuzzBoth(f *testing.F) {
	f.Add(int64(1), []byte{0, 1, 2, 3, 9, 17, 1, 1, 1, 1, 130, 1, 1})
	f.Add(int64(77), []byte{1, 1, 1, 1, 1, 1, 1, 1, 2, 2, 2, 2, 129, 2, 2, 2})
	f.Fuzz(func(t *testing.T, seed int64, l []byte) {
		locks, code := drawn(rand.New(rand.NewSource(seed)))
		m, e := model.New(locks, code)
		if e != api.OK {
			t.Fatal(e)
		}
		p := newPlain(locks, code)
		m.Start(mainProc)
		p.Start(mainProc)
		for _, b := range l {
			x := move{toStep, int(b % 16)}
			switch {
			case b >= 192:
				x.what = toStart
			case b >= 128:
				x.what = toRefuse
			}
			if got, want := made(m, x), made(p, x); !got.same(want) {
				t.Fatalf("%v: %+v, not %+v", x, got, want)
			}
			if s := seen(m).differs(seen(p)); s != "" {
				t.Fatalf("behind %v: %s", x, s)
			}
		}
	})
}
