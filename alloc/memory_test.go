package alloc_test

import (
	"cmp"
	"math/rand"
	"runtime"
	"slices"
	"sync"
	"testing"
	"unsafe"

	"dapple/alloc"
	"dapple/api"
)

// span is where a list's memory begins and ends, with the room behind it.
type span struct{ from, to uintptr }

// spanOf is a list's; nothing, if it has no memory.
func spanOf[T any](l []T) []span {
	if cap(l) == 0 {
		return nil
	}
	var one T
	from := uintptr(unsafe.Pointer(unsafe.SliceData(l)))
	return []span{{from, from + uintptr(cap(l))*unsafe.Sizeof(one)}}
}

// apart tells whether no two have memory in common.
func apart(spans ...[]span) bool {
	all := slices.Concat(spans...)
	slices.SortFunc(all, func(s, u span) int { return cmp.Compare(s.from, u.from) })
	for i := 1; i < len(all); i++ {
		if all[i].from < all[i-1].to {
			return false
		}
	}
	return true
}

// over lays another thing over all of a list, and into the room behind it.
func over[T any](l []T, one T) {
	for i := range l[:cap(l)] {
		l[:cap(l)][i] = one
	}
}

// TestFreeWrittenOver: what its owner does with the list is seen neither in the next one nor in who gets which cell.
func TestFreeWrittenOver(t *testing.T) {
	d := newDesk(t, 6)
	d.gets(1, 0)
	kept := d.a.Free()
	over(d.a.Free(), 5)
	_ = append(d.a.Free(), 0, 0, 0)
	d.free(1, 2, 3, 4, 5)
	d.gets(1, 1)
	over(d.a.Free(), 0)
	d.goesTo(0, 0)
	d.free(0, 2, 3, 4, 5)
	if !slices.Equal(kept, []int{1, 2, 3, 4, 5}) {
		t.Errorf("what came out has become %v", kept)
	}
}

// TestWaitingWrittenOver: nor in who is served, and who is refused.
func TestWaitingWrittenOver(t *testing.T) {
	d := allOut(t, 4)
	d.waits(3, 2, 7)
	d.waits(1, 4)
	kept := d.a.Waiting()
	over(d.a.Waiting(), who(8, -5))
	_ = append(d.a.Waiting(), who(8, 0), who(6, 0))
	d.waiting(who(2, 3), who(7, 3), who(4, 1))
	d.mayNotAsk(2, 7, 4)
	d.goesTo(0, 2)
	over(d.a.Waiting(), who(8, -5))
	d.refuses(2, 0, 4)
	over(d.a.Waiting(), who(8, -5))
	d.goesTo(1, 7)
	d.waits(0, 8)
	if !slices.Equal(kept, []api.Waiter{who(2, 3), who(7, 3), who(4, 1)}) {
		t.Errorf("what came out has become %v", kept)
	}
}

// TestRefusedWrittenOver: nor is it with those who are told to be refused.
func TestRefusedWrittenOver(t *testing.T) {
	d := allOut(t, 4)
	d.waits(1, 5)
	d.waits(4, 3)
	d.waits(1, 6)
	kept := d.a.Finish(2, 0)
	d.waits(1, 2, 6)
	later := d.a.Finish(2, 0)
	over(later, 3)
	d.waiting(who(3, 4))
	d.waits(1, 5, 2)
	d.refuses(2, 0, 5, 2)
	if !slices.Equal(kept, []int{5, 6}) {
		t.Errorf("what came out has become %v", kept)
	}
}

// TestNothingIsShared: no two lists that came out have memory in common, whatever was called between them (R2).
func TestNothingIsShared(t *testing.T) {
	if l := []int{1, 2, 3}; apart(spanOf(l[:1]), spanOf(l[2:])) || !apart(spanOf(l[:1:1]), spanOf(l[1:])) {
		t.Fatal("what is shared is not seen")
	}
	r := rand.New(rand.NewSource(124))
	lists := 0
	for range 60 {
		a, _ := alloc.New(5)
		var all []span
		var numbers [][]int
		var waiters [][]api.Waiter
		for _, c := range drawnRow(r, 5, 80) {
			if c.what == finishing {
				numbers = append(numbers, a.Finish(c.n, c.m))
			} else {
				made(a, c)
			}
			numbers = append(numbers, a.Free(), a.Free())
			waiters = append(waiters, a.Waiting(), a.Waiting())
		}
		for _, l := range numbers {
			all = append(all, spanOf(l)...)
		}
		for _, l := range waiters {
			all = append(all, spanOf(l)...)
		}
		if !apart(all) {
			t.Fatal("memory is shared")
		}
		lists += len(all)
		// A list that nobody has any more may have left its memory to a later one.
		runtime.KeepAlive(numbers)
		runtime.KeepAlive(waiters)
	}
	if lists < 2000 {
		t.Errorf("only %d lists", lists)
	}
}

// TestWrittenOverAtEachTurn: rows of calls are answered by the chapter, though all that comes out is written over at once.
func TestWrittenOverAtEachTurn(t *testing.T) {
	r := rand.New(rand.NewSource(125))
	for range 200 {
		cells := 4 + r.Intn(5)
		a, _ := alloc.New(cells)
		p := plainNew(cells)
		calls := drawnRow(r, cells, 200)
		for i, c := range calls {
			next, want := plainMade(p, c)
			if got := made(a, c); got != want {
				t.Fatalf("%v: %s, not %s", calls[:i+1], got, want)
			}
			p = next
			over(a.Free(), r.Intn(cells))
			over(a.Waiting(), who(r.Intn(10), r.Intn(9)-4))
			over(a.Finish(r.Intn(9), 1), 1)
			stands(t, a, p, calls[:i+1])
		}
	}
}

// TestAskingToldNothing: Free and Waiting change nothing, however often they are called.
func TestAskingToldNothing(t *testing.T) {
	d := allOut(t, 4)
	d.waits(2, 3)
	d.goesTo(1, 3)
	d.goesTo(3, 0)
	for range 100 {
		d.free(3)
		d.waiting()
	}
	d.gets(3, 1)
}

// TestTwoInTurns: two of them know nothing of one another (R4).
func TestTwoInTurns(t *testing.T) {
	d, o := newDesk(t, 4), newDesk(t, 5)
	for cell := range 4 {
		d.gets(1, cell)
		o.free(0, 1, 2, 3, 4)
	}
	d.waits(0, 1, 2)
	o.gets(2, 0)
	o.gets(1, 1)
	o.waiting()
	o.goesTo(0, 0)
	d.waiting(who(1, 0), who(2, 0))
	d.goesTo(3, 1)
	o.gets(1, 0)
	o.refuses(9, 0)
	d.refuses(9, 0, 2)
	d.gets(1, 3)
	o.gets(2, 2)
}

// TestManyInDrawnTurns: eight of them, one of which is called at each turn.
func TestManyInDrawnTurns(t *testing.T) {
	r := rand.New(rand.NewSource(126))
	var all []*alloc.Alloc
	var plains []plain
	for i := range 8 {
		a, _ := alloc.New(4 + i%3)
		all = append(all, a)
		plains = append(plains, plainNew(4+i%3))
	}
	for range 20000 {
		i := r.Intn(8)
		c := drawnCall(r, plains[i])
		next, want := plainMade(plains[i], c)
		if got := made(all[i], c); got != want {
			t.Fatalf("%v: %s, not %s", c, got, want)
		}
		plains[i] = next
		j := r.Intn(8)
		stands(t, all[j], plains[j], nil)
	}
}

// TestEachOfOneGoroutine: many goroutines at one time, each with its own, are answered as if each were alone.
func TestEachOfOneGoroutine(t *testing.T) {
	var all sync.WaitGroup
	for seed := range 8 {
		all.Go(func() {
			r := rand.New(rand.NewSource(int64(seed % 2)))
			a, _ := alloc.New(4)
			p := plainNew(4)
			for _, c := range drawnRow(r, 4, 2000) {
				next, want := plainMade(p, c)
				if got := made(a, c); got != want || !slices.Equal(a.Waiting(), next.row) {
					t.Errorf("%v: %s, not %s", c, got, want)
					return
				}
				p = next
			}
		})
	}
	all.Wait()
}
