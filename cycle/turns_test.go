package cycle_test

import (
	"math/rand"
	"sync"
	"testing"

	"dapple/api"
	"dapple/cycle"
)

// asked is what one row of calls is asked of, and what it answered.
type asked struct {
	s     api.Cycle
	a     api.Around
	back  bool
	begun api.Cycle
	do    api.Do
	to    api.Cycle
	of, e api.Errno
	most  int
}

// answered makes all calls of it.
func (x asked) answered() asked {
	x.begun, x.of = cycle.Begin(x.s)
	x.do = cycle.Next(x.s, x.a)
	x.to, x.e = cycle.Step(x.s, x.a, x.back)
	x.most = cycle.Most(x.a.Cells, x.a.Globals, x.a.Thread)
	return x
}

// drawnAsked are many, each answered once.
func drawnAsked(seed int64) []asked {
	r := rand.New(rand.NewSource(seed))
	var out []asked
	for range 5000 {
		x := asked{
			s:    mended(api.Cycle{Phase: api.Phase(r.Intn(4)), Global: r.Intn(3), Swept: r.Intn(3), Freed: r.Intn(3), Begun: r.Intn(3), Asked: r.Intn(2) == 0}),
			a:    api.Around{Cells: r.Intn(4), Globals: r.Intn(4), Thread: r.Intn(3), Still: r.Intn(2) == 0, Told: r.Intn(2) == 0, Grey: r.Intn(2) == 0},
			back: r.Intn(2) == 0,
		}
		out = append(out, x.answered())
	}
	return out
}

// TestNothingIsRemembered: a call answers the same whatever was called ahead of it: in their order, in a drawn one, each twice.
func TestNothingIsRemembered(t *testing.T) {
	all := drawnAsked(177)
	r := rand.New(rand.NewSource(178))
	for range 4 {
		r.Shuffle(len(all), func(i, j int) { all[i], all[j] = all[j], all[i] })
		for _, x := range all {
			if got := x.answered(); got != x {
				t.Fatalf("%+v, not %+v", got, x)
			}
			if got := x.answered(); got != x {
				t.Fatalf("once more: %+v, not %+v", got, x)
			}
		}
	}
}

// TestByGoroutines: many that ask at one time hear what one alone does.
func TestByGoroutines(t *testing.T) {
	var all sync.WaitGroup
	for seed := range 8 {
		rows := drawnAsked(int64(seed))
		all.Go(func() {
			for _, x := range rows {
				if got := x.answered(); got != x {
					t.Errorf("%+v, not %+v", got, x)
					return
				}
			}
		})
	}
	all.Wait()
}
