package baton_test

import (
	"math/rand"
	"sync"
	"testing"

	"dapple/api"
	"dapple/baton"
	"dapple/world"
)

// script is what something is made of, and the calls that are made of it.
type script struct {
	config  api.Config
	program api.Code
	moves   []move
}

// told is what a script is answered, and what is seen in the end.
type told struct {
	answers []answer
	end     sight
}

func (x told) differs(y told) string {
	for i, a := range x.answers {
		if !a.same(y.answers[i]) {
			return "answers"
		}
	}
	return x.end.differs(y.end)
}

// drawnScript is one, and what a world answers.
func drawnScript(t testing.TB, seed int64, moves int) (script, told) {
	t.Helper()
	r := rand.New(rand.NewSource(seed))
	var s script
	s.config, s.program = drawn(t, r)
	w, _ := world.New(s.config, s.program)
	from := newMover(r)
	for range moves {
		s.moves = append(s.moves, from.next(w))
		made(w, s.moves[len(s.moves)-1])
	}
	w, _ = world.New(s.config, s.program)
	return s, s.played(w)
}

// played makes all moves of something.
func (s script) played(w face) (x told) {
	for _, m := range s.moves {
		x.answers = append(x.answers, made(w, m))
	}
	x.end = seen(w)
	return x
}

// TestBatonsBeside one another, each asked from a goroutine of its own: all of them answer what worlds do; and no goroutine is
// left when all are shut.
func TestBatonsBeside(t *testing.T) {
	calm(t)
	const batons = 64
	scripts, want, got := make([]script, batons), make([]told, batons), make([]told, batons)
	counts := make([]int, batons)
	for i := range batons {
		scripts[i], want[i] = drawnScript(t, int64(i/2)+600, 400) // two of each
	}
	var all sync.WaitGroup
	for i := range batons {
		all.Add(1)
		go func() {
			defer all.Done()
			b, e := baton.New(scripts[i].config, scripts[i].program)
			if e != api.OK {
				return
			}
			got[i] = scripts[i].played(b)
			counts[i] = b.Close()
		}()
	}
	all.Wait()
	for i := range batons {
		if len(got[i].answers) == 0 {
			t.Fatal("no baton")
		}
		if s := got[i].differs(want[i]); s != "" {
			t.Errorf("%d: %s", i, s)
		}
		if counts[i] != 1+want[i].end.threads {
			t.Errorf("%d: %d goroutines, %d threads", i, counts[i], want[i].end.threads)
		}
	}
	gone(t)
}

// TestOpenBesideOneAnother: many batons that are all open have as many goroutines as they have actors, and are shut in any order.
func TestOpenBesideOneAnother(t *testing.T) {
	calm(t)
	var open []desk
	actors := 0
	for i := range 40 {
		s, _ := drawnScript(t, int64(i)+700, 100)
		d := newDesk(t, s.config.Cells, s.config.Locks, s.program)
		s.played(d)
		open = append(open, d)
		actors += 1 + d.Threads()
		have(t, actors)
	}
	rand.New(rand.NewSource(1)).Shuffle(len(open), func(i, j int) { open[i], open[j] = open[j], open[i] })
	for i, d := range open {
		was := make([]sight, len(open))
		for j := i + 1; j < len(open); j++ {
			was[j] = seen(open[j])
		}
		actors -= 1 + d.Threads()
		d.closes(1 + d.Threads())
		for j := i + 1; j < len(open); j++ {
			if s := was[j].differs(seen(open[j])); s != "" {
				t.Fatal(s)
			}
		}
		if !soon(func() bool { return len(routines()) == actors }) {
			t.Fatal(len(routines()), actors)
		}
	}
	gone(t)
}

// TestBatonsByTurns: many, a call each in turn, answer as worlds do that are asked alone.
func TestBatonsByTurns(t *testing.T) {
	t.Parallel()
	for seed := range int64(20) {
		var open []desk
		var scripts []script
		var want []told
		for i := range int64(5) {
			s, x := drawnScript(t, seed*5+i+800, 150)
			open, scripts, want = append(open, newDesk(t, s.config.Cells, s.config.Locks, s.program)), append(scripts, s), append(want, x)
		}
		for n := range 150 {
			for i, d := range open {
				if a := made(d, scripts[i].moves[n]); !a.same(want[i].answers[n]) {
					t.Fatalf("%v: %+v by turns, %+v alone", scripts[i].moves[n], a, want[i].answers[n])
				}
			}
		}
		for i, d := range open {
			if s := seen(d).differs(want[i].end); s != "" {
				t.Fatal(s)
			}
		}
	}
}

// TestCallsFromManyGoroutines: one behind the other, each from a goroutine that has made none yet.
func TestCallsFromManyGoroutines(t *testing.T) {
	t.Parallel()
	for seed := range int64(20) {
		s, want := drawnScript(t, seed+900, 200)
		var got told
		var b *baton.Baton
		elsewhere := func(call func()) {
			done := make(chan bool)
			go func() {
				defer close(done)
				call()
			}()
			<-done
		}
		elsewhere(func() { b, _ = baton.New(s.config, s.program) })
		for _, m := range s.moves {
			elsewhere(func() { got.answers = append(got.answers, made(b, m)) })
		}
		elsewhere(func() { got.end = seen(b) })
		if x := got.differs(want); x != "" {
			t.Errorf("seed %d: %s", seed, x)
		}
		elsewhere(func() {
			if n := b.Close(); n != 1+want.end.threads {
				t.Errorf("seed %d: %d goroutines", seed, n)
			}
		})
	}
}
