package atoms_test

import (
	"math"
	"math/rand"
	"runtime"
	"slices"
	"testing"

	"dapple/api"
	"dapple/atoms"
)

// same tells whether two storms came to the same; lists without elements are the same, nil or not (R6).
func same(a, b api.Storm) bool {
	return a.Sum == b.Sum && a.Firsts == b.Firsts && a.Refused == b.Refused && a.Most == b.Most &&
		slices.Equal(a.Tickets, b.Tickets) && slices.Equal(a.Popped, b.Popped)
}

// plain is what calls must come to: reckoned from them alone, without any of the package's things.
func plain(calls []api.Atom) api.Storm {
	var out api.Storm
	for _, c := range calls {
		switch c.Kind {
		case api.AtomAdd:
			out.Sum += c.N
		case api.AtomSet:
			if out.Firsts == 0 {
				out.Firsts = 1
			} else {
				out.Refused++
			}
		case api.AtomRaise:
			out.Most = max(out.Most, c.N)
		case api.AtomTake:
			out.Tickets = append(out.Tickets, uint64(len(out.Tickets)))
		case api.AtomPush:
			out.Popped = append(out.Popped, c.N)
		}
	}
	slices.Sort(out.Popped)
	return out
}

// some are random calls, of all kinds, and how many of them push.
func some(r *rand.Rand, n int) (calls []api.Atom, pushes int) {
	for range n {
		c := api.Atom{Kind: api.AtomAdd + uint8(r.Intn(6)), N: r.Int63n(40) - 20}
		if r.Intn(10) == 0 {
			c.N = edges()[r.Intn(len(edges()))]
		}
		if c.Kind == api.AtomPush {
			pushes++
		}
		calls = append(calls, c)
	}
	return calls, pushes
}

func example() []api.Atom {
	return []api.Atom{
		{Kind: api.AtomAdd, N: 5}, {Kind: api.AtomSet}, {Kind: api.AtomAdd, N: -2}, {Kind: api.AtomSet}, {Kind: api.AtomRaise, N: 4},
		{Kind: api.AtomTake}, {Kind: api.AtomTake}, {Kind: api.AtomPush, N: 9}, {Kind: api.AtomPop}, {Kind: api.AtomPush, N: 1},
	}
}

func TestStormOfTheExample(t *testing.T) {
	want := api.Storm{Sum: 3, Firsts: 1, Refused: 1, Most: 4, Tickets: []uint64{0, 1}, Popped: []int64{1, 9}}
	for workers := 1; workers <= 16; workers++ {
		if s, e := atoms.Storm(workers, 2, example()...); e != api.OK || !same(s, want) {
			t.Error(workers, s, e)
		}
	}
	if s, e := atoms.Storm(3, 1, example()...); e != api.ErrAtomsForm || !same(s, api.Storm{}) {
		t.Error("most 1", s, e)
	}
	if s, e := atoms.Storm(1, 0); e != api.OK || !same(s, api.Storm{}) {
		t.Error("no calls", s, e)
	}
}

// times is a call so often.
func times(n int, c api.Atom) []api.Atom { return slices.Repeat([]api.Atom{c}, n) }

func TestStormRefuses(t *testing.T) {
	push, set, none := api.Atom{Kind: api.AtomPush}, api.Atom{Kind: api.AtomSet}, api.Atom{}
	for _, c := range []struct {
		name          string
		workers, most int
		calls         []api.Atom
		want          api.Errno
	}{
		{"no workers", 0, 2, example(), api.ErrArg},
		{"too many workers", 17, 2, example(), api.ErrArg},
		{"less than no workers", -1, 2, example(), api.ErrArg},
		{"the most workers", 16, 2, example(), api.OK},
		{"one worker", 1, 2, example(), api.OK},
		{"most -1", 1, -1, nil, api.ErrAtomsForm},
		{"most 65537", 1, 65537, nil, api.ErrAtomsForm},
		{"most beyond all", 1, math.MaxInt, nil, api.ErrAtomsForm},
		{"most 0", 1, 0, []api.Atom{set}, api.OK},
		{"most 65536", 1, 65536, []api.Atom{set}, api.OK},
		{"65536 calls", 4, 0, times(65536, set), api.OK},
		{"one call more", 4, 0, times(65537, set), api.ErrMuch},
		{"as many pushes as most", 2, 3, times(3, push), api.OK},
		{"one push more", 2, 3, times(4, push), api.ErrAtomsForm},
		{"a push on none", 2, 0, times(1, push), api.ErrAtomsForm},
		{"one push more, with pops between", 2, 1, []api.Atom{push, {Kind: api.AtomPop}, push}, api.ErrAtomsForm},
		{"65536 pushes", 16, 65536, times(65536, push), api.OK},
		{"kind 0", 2, 3, []api.Atom{set, none}, api.ErrAtomsForm},
		{"kind 7", 2, 3, []api.Atom{{Kind: 7}, set}, api.ErrAtomsForm},
		{"kind 255", 2, 3, []api.Atom{set, {Kind: 255}, set}, api.ErrAtomsForm},
		{"workers ahead of most", 0, -1, nil, api.ErrArg},
		{"workers ahead of calls", 17, 0, times(65537, none), api.ErrArg},
		{"workers ahead of kinds", 17, 0, []api.Atom{none}, api.ErrArg},
		{"most ahead of calls", 1, 65537, times(65537, set), api.ErrAtomsForm},
		{"calls ahead of kinds", 1, 65536, times(65537, none), api.ErrMuch},
		{"calls ahead of pushes", 1, 5, times(65537, push), api.ErrMuch},
	} {
		s, e := atoms.Storm(c.workers, c.most, c.calls...)
		if e != c.want {
			t.Error(c.name, e)
		} else if want := plain(c.calls); e == api.OK && !same(s, want) {
			t.Error(c.name, "came to something else")
		} else if e != api.OK && !same(s, api.Storm{}) {
			t.Error(c.name, "is refused, but there is an answer")
		}
	}
}

func TestStormOfOneSort(t *testing.T) {
	for _, c := range []struct {
		name  string
		calls []api.Atom
		want  api.Storm
	}{
		{"the sum goes round", []api.Atom{{Kind: api.AtomAdd, N: math.MaxInt64}, {Kind: api.AtomAdd, N: 1}}, api.Storm{Sum: math.MinInt64}},
		{"adds of nothing", times(100, api.Atom{Kind: api.AtomAdd}), api.Storm{}},
		{"a single set", times(1, api.Atom{Kind: api.AtomSet, N: 8}), api.Storm{Firsts: 1}},
		{"sets", times(100, api.Atom{Kind: api.AtomSet, N: 8}), api.Storm{Firsts: 1, Refused: 99}},
		{"the max begins with 0", []api.Atom{{Kind: api.AtomRaise, N: -4}, {Kind: api.AtomRaise, N: math.MinInt64}}, api.Storm{}},
		{"the greatest", []api.Atom{{Kind: api.AtomRaise, N: 3}, {Kind: api.AtomRaise, N: math.MaxInt64}, {Kind: api.AtomRaise, N: 5}}, api.Storm{Most: math.MaxInt64}},
		{"takes", times(3, api.Atom{Kind: api.AtomTake, N: 8}), api.Storm{Tickets: []uint64{0, 1, 2}}},
		{"pops of nothing", times(5, api.Atom{Kind: api.AtomPop, N: 8}), api.Storm{}},
		{"each as often as it was pushed", []api.Atom{{Kind: api.AtomPush, N: 3}, {Kind: api.AtomPush, N: -1}, {Kind: api.AtomPush, N: 3}, {Kind: api.AtomPush}, {Kind: api.AtomPop}}, api.Storm{Popped: []int64{-1, 0, 3, 3}}},
	} {
		for _, workers := range []int{1, 2, 5, 16} {
			if s, e := atoms.Storm(workers, 100, c.calls...); e != api.OK || !same(s, c.want) {
				t.Error(c.name, workers, s, e)
			}
		}
	}
}

// TestStormHangsOnItsCallsAlone: not on workers, not on their order, not on how often it was asked.
func TestStormHangsOnItsCallsAlone(t *testing.T) {
	for seed := range int64(60) {
		r := rand.New(rand.NewSource(seed))
		calls, pushes := some(r, r.Intn(300))
		want := plain(calls)
		for _, workers := range []int{1, 2, 3, 7, 16} {
			for range 3 {
				r.Shuffle(len(calls), func(i, j int) { calls[i], calls[j] = calls[j], calls[i] })
				if s, e := atoms.Storm(workers, pushes, calls...); e != api.OK || !same(s, want) {
					t.Fatal(seed, workers, s, e, "not", want)
				}
			}
		}
	}
}

func TestStormOfTheMostCalls(t *testing.T) {
	calls, _ := some(rand.New(rand.NewSource(1)), 65536)
	want := plain(calls)
	for _, workers := range []int{1, 4, 16} {
		if s, e := atoms.Storm(workers, 65536, calls...); e != api.OK || !same(s, want) {
			t.Error(workers, "came to something else", e)
		}
	}
}

// TestStormKeepsToItsMemory: what is handed in stays as it is, also behind its length; what comes out is new.
func TestStormKeepsToItsMemory(t *testing.T) {
	room := append(example(), times(4, api.Atom{Kind: 99, N: 99})...)
	before := slices.Clone(room)
	a, e := atoms.Storm(4, 2, room[:10]...)
	if e != api.OK || !slices.Equal(room, before) {
		t.Fatal("what was handed in is changed, or not taken", e)
	}
	b, _ := atoms.Storm(4, 2, room[:10]...)
	clear(room)
	for i := range a.Tickets[:cap(a.Tickets)] {
		a.Tickets[:cap(a.Tickets)][i] = 77
	}
	for i := range a.Popped[:cap(a.Popped)] {
		a.Popped[:cap(a.Popped)][i] = 77
	}
	c, _ := atoms.Storm(4, 2, example()...)
	want := plain(example())
	if !same(b, want) || !same(c, want) {
		t.Error("memory is shared", b, c)
	}
}

// TestStormsBesideOneAnother: each has new things of its own.
func TestStormsBesideOneAnother(t *testing.T) {
	beside(goroutines, func(i int) {
		r := rand.New(rand.NewSource(int64(i)))
		for range 20 {
			calls, pushes := some(r, 100)
			if s, e := atoms.Storm(3, pushes, calls...); e != api.OK || !same(s, plain(calls)) {
				t.Error("a storm beside others", s, e)
			}
		}
	})
}

// TestStormLeavesNobody: its goroutines have ended (each may need a moment to be gone).
func TestStormLeavesNobody(t *testing.T) {
	before := runtime.NumGoroutine()
	for range 50 {
		atoms.Storm(16, 2, example()...)
	}
	for range 1000000 {
		if runtime.NumGoroutine() <= before {
			return
		}
		runtime.Gosched()
	}
	t.Error("goroutines are left:", runtime.NumGoroutine()-before)
}
