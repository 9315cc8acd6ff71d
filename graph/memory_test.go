package graph_test

import (
	"cmp"
	"fmt"
	"math/rand"
	"slices"
	"sync"
	"testing"
	"unsafe"

	"dapple/api"
	"dapple/graph"
)

// span is where a list's memory begins and ends, with the room behind it.
type span struct{ from, to uintptr }

// spanOf is a list's; nothing, if it has no memory.
func spanOf[T any](l []T) []span {
	if cap(l) == 0 {
		return nil
	}
	var one T
	from := uintptr(unsafe.Pointer(unsafe.SliceData(l)))
	return []span{{from, from + uintptr(cap(l))*unsafe.Sizeof(one)}}
}

// apart tells whether no two have memory in common.
func apart(spans ...[]span) bool {
	all := slices.Concat(spans...)
	slices.SortFunc(all, func(s, u span) int { return cmp.Compare(s.from, u.from) })
	for i := 1; i < len(all); i++ {
		if all[i].from < all[i-1].to {
			return false
		}
	}
	return true
}

// out is all that the calls answer for one heap and its roots.
type out struct {
	reached []bool
	order   []int
	cells   []api.Cell
	own     []api.Word
	way     []int
	isWay   bool
	errors  [5]api.Errno
	wrongAt int
}

func ask(h []api.Cell, roots []api.Word, to int) out {
	var o out
	o.errors[0], o.wrongAt = graph.Check(h)
	o.reached, o.errors[1] = graph.Reach(h, roots...)
	o.order, o.errors[2] = graph.Order(h, roots...)
	o.cells, o.own, o.errors[3] = graph.Form(h, roots...)
	o.way, o.isWay, o.errors[4] = graph.Path(h, to, roots...)
	return o
}

// said is all that was answered.
func (o out) said() string {
	return fmt.Sprint(o.reached, o.order, o.cells, o.own, o.way, o.isWay, o.errors, o.wrongAt)
}

func (o out) spans() []span {
	return slices.Concat(spanOf(o.reached), spanOf(o.order), spanOf(o.cells), spanOf(o.own), spanOf(o.way))
}

// scribble lays other things over all that came out, and into the room behind.
func (o out) scribble() {
	over(o.reached, true)
	over(o.order, -7)
	over(o.cells, api.Cell{Kind: 9, Colour: 9, A: 9, B: 9})
	over(o.own, 0)
	over(o.way, -7)
}

func over[T any](l []T, one T) {
	for i := range l[:cap(l)] {
		l[:cap(l)][i] = one
	}
}

// TestNothingIsShared: neither with what was handed in, nor by two lists of one answer, nor by two answers (R2).
func TestNothingIsShared(t *testing.T) {
	if l := []int{1, 2, 3}; apart(spanOf(l[:1]), spanOf(l[2:])) || !apart(spanOf(l[:1:1]), spanOf(l[1:])) {
		t.Fatal("what is shared is not seen")
	}
	eachDrawn(t, 108, func(r *rand.Rand, h []api.Cell, roots []api.Word) {
		if len(h) == 0 {
			return
		}
		to := r.Intn(len(h))
		one, two := ask(h, roots, to), ask(h, roots, to)
		if !apart(spanOf(h), spanOf(roots), one.spans(), two.spans()) {
			t.Fatalf("%s shares memory", told(h, roots))
		}
		want := two.said()
		one.scribble()
		if two.said() != want || ask(h, roots, to).said() != want {
			t.Fatalf("%s: what came out is kept", told(h, roots))
		}
		over(h, api.Cell{})
		over(roots, 0)
		if two.said() != want {
			t.Fatalf("%s: what was handed in is kept", told(h, roots))
		}
	})
}

// TestFormsOfFormsAreNewMemory: where a form is the heap that was handed in, it is another list.
func TestFormsOfFormsAreNewMemory(t *testing.T) {
	for _, roots := range []string{"", "5 n", "r0", "r0 r1 r0"} {
		h, own := formOf(t, heapOf("r1 n, r0 r2, free x0 x0"), wordsOf(roots))
		again, ownAgain := formOf(t, h, own)
		if !apart(spanOf(h), spanOf(own), spanOf(again), spanOf(ownAgain)) {
			t.Errorf("roots %q: memory is shared", roots)
		}
	}
}

// behind is a list in memory of its own, with some things in the room behind it.
func behind[T any](l []T, some ...T) []T {
	return append(slices.Clone(l), some...)[: len(l) : len(l)+len(some)]
}

// TestWhatIsHandedInStays: neither it nor what lies behind it is changed, or read (R2, R10).
func TestWhatIsHandedInStays(t *testing.T) {
	r := rand.New(rand.NewSource(109))
	refusals := 0
	for range 4000 {
		h := drawnHeap(r, 7)
		roots := drawnRoots(r, len(h))
		if r.Intn(4) == 0 {
			spoilt(r, h)
		}
		to := r.Intn(len(h)+2) - 1
		want := ask(h, roots, to).said()
		more := heapOf("n n, r0 r0, x0 x0")
		more[1].Kind = 9
		wide, wideRoots := behind(h, more...), behind(roots, 0, ref(0), ref(99))
		before := fmt.Sprint(wide[:cap(wide)], wideRoots[:cap(wideRoots)])
		o := ask(wide, wideRoots, to)
		if o.said() != want {
			t.Fatalf("%s: %s, not %s", told(h, roots), o.said(), want)
		}
		o.scribble()
		if fmt.Sprint(wide[:cap(wide)], wideRoots[:cap(wideRoots)]) != before {
			t.Fatalf("%s is changed", told(h, roots))
		}
		if o.errors[1] != api.OK {
			refusals++
		}
	}
	if refusals < 400 {
		t.Errorf("only %d are refused", refusals)
	}
}

// TestRefsBehindTheHeap: a cell that lies in the room behind the list is none of it.
func TestRefsBehindTheHeap(t *testing.T) {
	h := heapOf("r1 n, r2 n, n n")
	checks(t, h[:2], api.ErrGraphForm, 1)
	refused(t, h[:2], ref(0))
	refused(t, h[:0], ref(0))
	refusedPath(t, h[:0], 0)
	checks(t, h[:0], api.OK, 0)
}

// TestRoomBehindIsNobodyElses: what is put behind a list that came out stands in no other one.
func TestRoomBehindIsNobodyElses(t *testing.T) {
	eachDrawn(t, 110, func(r *rand.Rand, h []api.Cell, roots []api.Word) {
		if len(h) == 0 {
			return
		}
		o := ask(h, roots, r.Intn(len(h)))
		want := o.said()
		_ = append(o.reached, true, true)
		_ = append(o.order, -7, -7)
		_ = append(o.cells, api.Cell{Kind: 9}, api.Cell{Kind: 9})
		_ = append(o.own, 0, 0)
		_ = append(o.way, -7, -7)
		if o.said() != want {
			t.Fatalf("%s: %s, not %s", told(h, roots), o.said(), want)
		}
	})
}

// TestAnswersHangOnWhatIsGivenAlone: asked by many at one time, of heaps of their own and of one, the calls answer the same.
func TestAnswersHangOnWhatIsGivenAlone(t *testing.T) {
	shared, sharedRoots := heapOf("r2 n, n n, r0 r3, 1 n, free r0 x0, box r4 r2"), wordsOf("r5 n r0")
	want := ask(shared, sharedRoots, 3).said()
	var all sync.WaitGroup
	for seed := range 8 {
		all.Go(func() {
			r := rand.New(rand.NewSource(int64(seed % 2)))
			for range 200 {
				h := drawnHeap(r, 7)
				plainAll(t, h, drawnRoots(r, len(h)))
				if got := ask(shared, sharedRoots, 3).said(); got != want {
					t.Errorf("%s, not %s", got, want)
				}
			}
		})
	}
	all.Wait()
}
