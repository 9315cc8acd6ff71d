package locks_test

import (
	"math/rand"
	"slices"
	"sync"
	"testing"

	"dapple/api"
	"dapple/locks"
)

// spoil changes a list that came out, and all the room behind it.
func spoil(l []int) {
	l = l[:cap(l)]
	for i := range l {
		l[i] = -7
	}
}

// TestListsAreNewMemory: those of End and Stuck may be changed, and nothing else is by that.
func TestListsAreNewMemory(t *testing.T) {
	d := newDesk(t, 3, 1, 8)
	d.takes(1, 0)
	d.takes(1, 1)
	d.queues(0, 8, 7)
	d.queues(1, 6)
	d.joinsLater(5, 1)
	d.joinsLater(4, 8)
	d.joinsLater(3, 8)
	d.changesNothing(func() { spoil(d.b.Stuck()) })
	l, e := d.b.End(1, 85, api.OK)
	if !slices.Equal(l, []int{5, 6, 8}) || e != api.OK {
		t.Fatalf("%v, %d", l, e)
	}
	d.changesNothing(func() { spoil(l) })
	d.waits(3, 4, 7)
	l, e = d.b.End(8, 93, api.ErrVMCall)
	if !slices.Equal(l, []int{3, 4, 7}) || e != api.OK {
		t.Fatalf("%v, %d", l, e)
	}
	spoil(l)
	d.holder(0, 7)
	d.goes(3, 4, 7)
	d.joinsFailed(3, 8, api.ErrVMCall)
}

// TestStuckIsNewEachTime: no two lists of it share memory, nor room behind it.
func TestStuckIsNewEachTime(t *testing.T) {
	for size := 2; size <= 8; size++ {
		d := newDesk(t, 8, 0, 8)
		ring(d, upTo(size), size)
		first, second := d.b.Stuck(), d.b.Stuck()
		spoil(first)
		if !slices.Equal(second, upTo(size)) {
			t.Errorf("%v", second)
		}
		spoil(second)
		d.stuck(upTo(size)...)
	}
}

// TestListsThatAreMadeLonger: what is appended to a list of End is in nobody's row.
func TestListsThatAreMadeLonger(t *testing.T) {
	d := newDesk(t, 1, 0, 8)
	d.takes(1, 0)
	for n := 2; n <= 4; n++ {
		d.joinsLater(n, 1)
	}
	d.queues(0, 5, 6, 7)
	l, _ := d.b.End(1, 85, api.OK)
	_ = append(l, -7, -7, -7, -7)
	d.hands(5, 0, 6)
	d.queues(0, 5)
	d.hands(6, 0, 7)
	d.hands(7, 0, 5)
}

// TestSpoiltAllTheWay: drawn scripts, where each list that comes out is changed at once, answer as a book whose lists nobody touches.
func TestSpoiltAllTheWay(t *testing.T) {
	for seed := range 500 {
		r := rand.New(rand.NewSource(int64(seed)))
		size := drawnScript(r)
		spoilt, _ := size.replayed(t)
		left, _ := size.replayed(t)
		for range 7 {
			spoilt.Start()
			left.Start()
		}
		for range 60 {
			c := drawn(r, size, left)
			a, b := made(spoilt, c), made(left, c)
			if !a.same(b) {
				t.Fatalf("%v: %v, not %v", c, a, b)
			}
			spoil(a.l)
			spoil(spoilt.Stuck())
			if seen(spoilt) != seen(left) {
				t.Fatalf("behind %v they differ", c)
			}
		}
	}
}

// TestTwoBooks side by side: what is done in one is nothing to the other.
func TestTwoBooks(t *testing.T) {
	d, o := newDesk(t, 2, 2, 3), newDesk(t, 2, 2, 2)
	o.changesNothing(func() {
		d.takes(1, 0)
		d.queues(0, 2)
		d.joinsLater(3, 1)
		d.sets(1, 85, none)
		d.starts(4)
		d.ends(1, 93, 2, 3)
		d.mayNotLock(twice, 2, 0)
		d.takes(3, 1)
		d.queues(1, 2)
		d.queues(0, 3)
		d.stuck(2, 3)
	})
	d.changesNothing(func() {
		o.takes(2, 0)
		o.queues(0, 1)
		o.sets(0, 101, none)
		o.fails(2, api.ErrVMCall, 1)
		o.starts(3)
		o.hands(1, 0, 0)
	})
	o.goes(1, 3)
	o.global(1, none)
	d.global(0, none)
}

// TestBooksByTurns: many drawn scripts, a call each in turn, answer as each of them alone does.
func TestBooksByTurns(t *testing.T) {
	const books = 6
	for seed := range 60 {
		var alone [books][]answer
		var scripts [books]script
		var turns [books]*locks.Book
		for i := range books {
			r := rand.New(rand.NewSource(int64(seed*books + i)))
			s := drawnScript(r)
			turns[i], _ = s.replayed(t)
			b, _ := s.replayed(t)
			for n := range 60 {
				c := call{what: starting}
				if n >= 6 {
					c = drawn(r, s, b)
				}
				s.calls = append(s.calls, c)
				alone[i] = append(alone[i], made(b, c))
			}
			scripts[i] = s
		}
		for n := range 60 {
			for i := range books {
				if a := made(turns[i], scripts[i].calls[n]); !a.same(alone[i][n]) {
					t.Fatalf("%v: %v by turns, %v alone", scripts[i].calls[n], a, alone[i][n])
				}
			}
		}
	}
}

// TestGoroutinesWithBooksOfTheirOwn: nothing is shared among them.
func TestGoroutinesWithBooksOfTheirOwn(t *testing.T) {
	var all sync.WaitGroup
	var ends [8][]sight
	for i := range ends {
		all.Add(1)
		go func() {
			defer all.Done()
			for seed := range 40 {
				r := rand.New(rand.NewSource(int64(seed)))
				s := drawnScript(r)
				b, e := locks.New(s.locks, s.globals)
				if e != api.OK {
					return
				}
				for n := range 60 {
					if n < 6 {
						b.Start()
					} else {
						made(b, drawn(r, s, b))
					}
				}
				ends[i] = append(ends[i], seen(b))
			}
		}()
	}
	all.Wait()
	for _, l := range ends {
		if len(l) != 40 || !slices.Equal(l, ends[0]) {
			t.Fatal("they came to different ends")
		}
	}
}

// TestManyRounds: a book that is used for long answers as at first.
func TestManyRounds(t *testing.T) {
	d := newDesk(t, 1, 0, 3)
	d.takes(1, 0)
	d.queues(0, 2, 3)
	for n := range 30000 {
		thread, next := n%3+1, (n+1)%3+1
		d.hands(thread, 0, next)
		d.queues(0, thread)
	}
	d.holder(0, 1)
	d.hands(1, 0, 2)
	d.hands(2, 0, 3)
	d.hands(3, 0, 0)
}
