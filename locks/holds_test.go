package locks_test

import (
	"math/rand"
	"slices"
	"testing"

	"dapple/api"
	"dapple/locks"
)

// scribe listens to a drawn script, and has written down what the answers told: who asked for which lock, in that order, who for whose end, and who was given what.
type scribe struct {
	t       *testing.T
	b       *locks.Book
	asked   map[int][]int // by locks: who waits
	holds   map[int]int   // by locks: who was given it
	awaits  map[int]int   // by threads: whose end it waits for
	stuck   []int
	counted struct{ handed, joined, rings, refused, ended int }
}

func newScribe(t *testing.T, b *locks.Book) *scribe {
	return &scribe{t: t, b: b, asked: map[int][]int{}, holds: map[int]int{}, awaits: map[int]int{}}
}

// given: the lock goes to the one who has asked first, or to nobody, if nobody has.
func (s *scribe) given(lock, to int) {
	s.t.Helper()
	want := 0
	if row := s.asked[lock]; len(row) > 0 {
		want = row[0]
		s.asked[lock] = row[1:]
		s.counted.handed++
	}
	if to != want {
		s.t.Fatalf("lock %d went to %d, not to %d", lock, to, want)
	}
	s.holds[lock] = to
}

// hears takes down what a call answered.
func (s *scribe) hears(c call, a answer) {
	s.t.Helper()
	if !a.taken() {
		s.counted.refused++
		return
	}
	switch {
	case c.what == locking && a.now:
		s.given(c.b, 0)
		s.holds[c.b] = c.a
	case c.what == locking:
		s.asked[c.b] = append(s.asked[c.b], c.a)
	case c.what == unlocking:
		s.given(c.b, a.n)
	case c.what == joining && !a.now:
		s.awaits[c.a] = c.b
	case c.what == ending:
		s.hearsEnd(c.a, a.l)
	}
}

// hearsEnd: all who waited for it, and the first one of each of its locks, are in the list, and nobody else.
func (s *scribe) hearsEnd(thread int, l []int) {
	s.t.Helper()
	var want []int
	for lock, holder := range s.holds {
		if holder == thread {
			if row := s.asked[lock]; len(row) > 0 {
				want = append(want, row[0])
			}
			s.given(lock, s.b.Holder(lock))
		}
	}
	for who, of := range s.awaits {
		if of == thread {
			want = append(want, who)
			delete(s.awaits, who)
			s.counted.joined++
		}
	}
	slices.Sort(want)
	if !slices.Equal(l, want) {
		s.t.Fatalf("the end of %d let %v go, not %v", thread, l, want)
	}
	s.counted.ended++
}

// checks: the sentences of 'What holds', by the book's own words.
func (s *scribe) checks() {
	s.t.Helper()
	for lock, row := range s.asked {
		if len(row) > 0 && s.b.Holder(lock) == 0 {
			s.t.Fatalf("lock %d is free, and %v wait for it", lock, row)
		}
		for _, n := range row {
			s.stillWaits(n)
		}
	}
	for n, of := range s.awaits {
		s.stillWaits(n)
		if x, _ := s.b.Ended(of); x.Ended {
			s.t.Fatalf("%d waits for the end of %d, which has come", n, of)
		}
	}
	for lock := range api.MaxLocks {
		holder := s.b.Holder(lock)
		if holder != s.holds[lock] {
			s.t.Fatalf("lock %d is held by %d, not by %d", lock, holder, s.holds[lock])
		}
		if x, _ := s.b.Ended(holder); x.Ended {
			s.t.Fatalf("%d has ended, and holds %d", holder, lock)
		}
	}
	s.checksStuck()
}

func (s *scribe) stillWaits(n int) {
	s.t.Helper()
	if !s.b.Waits(n) {
		s.t.Fatalf("%d was never told to go, and does not wait", n)
	}
}

// checksStuck: who was stuck is, and waits.
func (s *scribe) checksStuck() {
	s.t.Helper()
	now := s.b.Stuck()
	for _, n := range s.stuck {
		if !slices.Contains(now, n) || !s.b.Waits(n) {
			s.t.Fatalf("%v were stuck, now %v are", s.stuck, now)
		}
	}
	if len(now) > len(s.stuck) {
		s.counted.rings++
	}
	s.stuck = now
}

// TestWhatHolds on drawn scripts; and that a call that is refused changes nothing.
func TestWhatHolds(t *testing.T) {
	rounds := 4000
	if testing.Short() {
		rounds = 400
	}
	var handed, joined, rings, refused, ended int
	for seed := range rounds {
		r := rand.New(rand.NewSource(int64(seed) + 1e6))
		size := drawnScript(r)
		b, _ := size.replayed(t)
		s := newScribe(t, b)
		for range 2 + r.Intn(7) {
			b.Start()
		}
		for range 60 {
			c := drawn(r, size, b)
			was := seen(b)
			a := made(b, c)
			if !a.taken() && seen(b) != was {
				t.Fatalf("%v: %v, and something is changed", c, a)
			}
			s.hears(c, a)
			s.checks()
		}
		handed, joined, rings = handed+s.counted.handed, joined+s.counted.joined, rings+s.counted.rings
		refused, ended = refused+s.counted.refused, ended+s.counted.ended
	}
	if handed < rounds/2 || joined < rounds/5 || rings < rounds/5 || refused < rounds || ended < rounds {
		t.Errorf("%d handed on, %d joined, %d rings, %d refused, %d ended, of %d", handed, joined, rings, refused, ended, rounds)
	}
}

// TestStuckStaysStuckWhateverIsCalled: a ring of two to six, by locks and ends, then drawn calls of all: those of the ring go on no more, and others that come to a ring neither.
func TestStuckStaysStuckWhateverIsCalled(t *testing.T) {
	for seed := range 200 {
		r := rand.New(rand.NewSource(int64(seed)))
		row := r.Perm(8)[:2+r.Intn(5)]
		for i := range row {
			row[i]++
		}
		d := newDesk(t, 8, 2, 8)
		ring(d, row, r.Intn(1<<len(row)))
		want := d.b.Stuck()
		for range 100 {
			c := drawn(r, script{locks: 8, globals: 2}, d.b)
			a := made(d.b, c)
			is := d.b.Stuck()
			for _, n := range want {
				if !slices.Contains(is, n) || slices.Contains(a.l, n) || c.what == unlocking && a.n == n {
					t.Fatalf("%v: %v; %v were stuck, %v are", c, a, want, is)
				}
			}
			want = is
		}
	}
}

// TestALockIsNeverLost: threads that take, hand on and end, and never wait for each other in a ring, all come to their ends.
func TestALockIsNeverLost(t *testing.T) {
	for seed := range 300 {
		r := rand.New(rand.NewSource(int64(seed)))
		d := newDesk(t, 1, 0, 8)
		running := map[int]int{} // by threads: how often it has had the lock
		for ended, calls := 0, 0; ended < 8; calls++ {
			if calls > 1000 {
				t.Fatalf("seed %d: %d have ended, and no more end", seed, ended)
			}
			n := 1 + r.Intn(8)
			if x, _ := d.b.Ended(n); x.Ended || d.b.Waits(n) {
				continue
			}
			switch {
			case d.b.Holder(0) != n && running[n] < 3:
				d.b.Lock(n, 0)
			case d.b.Holder(0) == n && running[n] < 2:
				running[n]++
				d.b.Unlock(n, 0)
			default:
				running[n] = 3
				d.b.End(n, api.Word(n), api.OK)
				ended++
			}
		}
		d.holder(0, 0)
		d.stuck()
	}
}
