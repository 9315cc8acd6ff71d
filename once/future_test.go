package once_test

import (
	"math/rand"
	"runtime"
	"sync/atomic"
	"testing"

	"dapple/api"
	"dapple/once"
)

// anyWords are words, and numbers that are none.
func anyWords() []api.Word {
	return []api.Word{0, 1, 4, 5, 85, 1 << 31, 1<<32 + 7, 1 << 63, ^api.Word(0), 0x8000000000000008}
}

// isSetTo sees that a future is set to a word, whatever is done with it.
func isSetTo(t *testing.T, f *once.Future, w api.Word) {
	t.Helper()
	for _, other := range anyWords() {
		if e := f.Set(other); e != api.ErrOnceTwice {
			t.Errorf("Set again: %d", e)
		}
		if got := f.Get(); got != w || !f.Is() {
			t.Errorf("it is %d, %t, not %d", got, f.Is(), w)
		}
	}
}

func TestFuture(t *testing.T) {
	for _, w := range anyWords() {
		f, other := once.NewFuture(), once.NewFuture()
		for range 3 {
			if f.Is() {
				t.Error("it is set")
			}
		}
		if e := f.Set(w); e != api.OK {
			t.Errorf("Set: %d", e)
		}
		if !f.Is() || f.Get() != w || f.Get() != w {
			t.Errorf("it is %d, %t, not %d", f.Get(), f.Is(), w)
		}
		isSetTo(t, f, w)
		if other.Is() {
			t.Error("another one is set, too")
		}
		if e := other.Set(w + 1); e != api.OK {
			t.Errorf("Set of another one: %d", e)
		}
		isSetTo(t, other, w+1)
		isSetTo(t, f, w)
	}
}

// waiting are the goroutines that stand in a future's Get.
func waiting() []string { return stacks("dapple/once.(*Future).Get(") }

// TestWhoWaits: all who ask ahead of the Set wait for it, and then are told its word.
func TestWhoWaits(t *testing.T) {
	for _, w := range anyWords() {
		f := once.NewFuture()
		var told atomic.Int64
		words := make(chan api.Word)
		for range 8 {
			go func() {
				w := f.Get()
				told.Add(1)
				words <- w
			}()
		}
		if !soon(func() bool { return len(waiting()) == 8 }) {
			t.Fatal("so many wait:", len(waiting()))
		}
		for range 20 {
			runtime.Gosched()
		}
		if told.Load() != 0 || f.Is() {
			t.Fatal("they do not wait:", told.Load())
		}
		if e := f.Set(w); e != api.OK {
			t.Fatal(e)
		}
		for range 8 {
			if got := <-words; got != w {
				t.Errorf("told %d, not %d", got, w)
			}
		}
		isSetTo(t, f, w)
	}
	if !soon(func() bool { return len(waiting()) == 0 }) {
		t.Error("somebody waits behind the Set")
	}
}

// TestManySets: of several at one time one is OK; its word is there for whoever has been told, of that one or of another, that it is set.
func TestManySets(t *testing.T) {
	onProcessors(func() {
		for range 300 {
			f := once.NewFuture()
			var here, firsts, word atomic.Int64
			beside(8, func(i int) {
				meet(&here, 8)
				w := api.Word(100 + i)
				switch e := f.Set(w); e {
				case api.OK:
					firsts.Add(1)
					word.Store(int64(w))
				case api.ErrOnceTwice:
				default:
					t.Error(e)
				}
				if !f.Is() {
					t.Error("not set behind a Set")
				}
				if got := f.Get(); got < 100 || got > 107 {
					t.Error("told", got)
				}
			})
			if firsts.Load() != 1 {
				t.Fatal("so many were OK:", firsts.Load())
			}
			isSetTo(t, f, api.Word(word.Load()))
		}
	})
}

// TestWhatWasMadeIsSeen: what was written ahead of a Set, and its word, is seen by who has got that word, or is told that it is set, by
// Is or by another Set that comes too late.
func TestWhatWasMadeIsSeen(t *testing.T) {
	for round := range 20000 {
		f, made := once.NewFuture(), 0
		var here atomic.Int64
		beside(4, func(i int) {
			meet(&here, 4)
			switch i {
			case 0:
				made = 7
				f.Set(5)
			case 1:
				f.Get()
			case 2:
				for tries := 1; !f.Is(); tries++ {
					if tries%1000 == 0 {
						runtime.Gosched()
					}
				}
			case 3:
				for range round % 50 {
					if f.Is() {
						break
					}
				}
				f.Get()
			}
			if w := f.Get(); made != 7 || w != 5 {
				t.Error("not seen, round", round, made, w)
			}
		})
		if t.Failed() {
			return
		}
	}
}

// state is what a plain future is.
type state struct {
	is   bool
	word api.Word
}

// TestFutureAtOneMoment is R7.
func TestFutureAtOneMoment(t *testing.T) {
	eachAtOneMoment(t, 1500, state{}, func(n int, b *book[state]) func(i, j int) {
		f := once.NewFuture()
		return func(i, j int) {
			r := rand.New(rand.NewSource(int64(n*100 + i*10 + j)))
			b.note(i, func() func(state) (state, bool) {
				switch r.Intn(3) {
				case 0:
					is := f.Is()
					return func(s state) (state, bool) { return s, s.is == is }
				case 1:
					if f.Is() {
						w := f.Get()
						return func(s state) (state, bool) { return s, s.is && s.word == w }
					}
					return func(s state) (state, bool) { return s, !s.is }
				}
				w := api.Word(i*10 + j)
				e := f.Set(w)
				return func(s state) (state, bool) {
					if s.is {
						return s, e == api.ErrOnceTwice
					}
					return state{true, w}, e == api.OK
				}
			})
		}
	})
}
