package par_test

import (
	"cmp"
	"math/rand"
	"runtime"
	"slices"
	"testing"
	"unsafe"

	"dapple/api"
	"dapple/par"
)

// span is where a list's memory begins and ends, with the room behind it.
type span struct{ from, to uintptr }

// spanOf is a list's; nothing, if it has no memory.
func spanOf[T any](l []T) []span {
	if cap(l) == 0 {
		return nil
	}
	var one T
	from := uintptr(unsafe.Pointer(unsafe.SliceData(l)))
	return []span{{from, from + uintptr(cap(l))*unsafe.Sizeof(one)}}
}

// apart tells whether no two have memory in common.
func apart(spans ...[]span) bool {
	all := slices.Concat(spans...)
	slices.SortFunc(all, func(s, u span) int { return cmp.Compare(s.from, u.from) })
	for i := 1; i < len(all); i++ {
		if all[i].from < all[i-1].to {
			return false
		}
	}
	return true
}

// over lays another one over all of a list, and into the room behind it.
func over[T any](l []T, one T) {
	for i := range l[:cap(l)] {
		l[:cap(l)][i] = one
	}
}

// answer is all that the three calls answer.
type answer struct {
	live                                []bool
	swept, collected                    []api.Cell
	freed, freedToo                     []int
	markSums, sweepSums, collectSums    api.Sums
	markError, sweepError, collectError api.Errno
}

func ask(h []api.Cell, live []bool, workers int, roots []api.Word) answer {
	var a answer
	a.live, a.markSums, a.markError = par.Mark(h, workers, roots...)
	a.swept, a.freed, a.sweepSums, a.sweepError = par.Sweep(h, live, workers)
	a.collected, a.freedToo, a.collectSums, a.collectError = par.Collect(h, workers, roots...)
	return a
}

// spans are those of all lists that came out.
func (a answer) spans() []span {
	return slices.Concat(spanOf(a.live), spanOf(a.swept), spanOf(a.freed), spanOf(a.collected), spanOf(a.freedToo))
}

// is tells whether two answers are the same.
func (a answer) is(b answer) bool {
	return slices.Equal(a.live, b.live) && slices.Equal(a.swept, b.swept) && slices.Equal(a.freed, b.freed) &&
		slices.Equal(a.collected, b.collected) && slices.Equal(a.freedToo, b.freedToo) &&
		a.markSums == b.markSums && a.sweepSums == b.sweepSums && a.collectSums == b.collectSums &&
		a.markError == b.markError && a.sweepError == b.sweepError && a.collectError == b.collectError
}

// clone is the same answer in other memory.
func (a answer) clone() answer {
	a.live, a.swept, a.collected = slices.Clone(a.live), slices.Clone(a.swept), slices.Clone(a.collected)
	a.freed, a.freedToo = slices.Clone(a.freed), slices.Clone(a.freedToo)
	return a
}

// TestHandedInStays: neither what is handed in nor the room behind it is changed, whether a call refuses or not (R2, R10).
func TestHandedInStays(t *testing.T) {
	r := rand.New(rand.NewSource(241))
	refusals := 0
	for range 1500 {
		h := append(drawnHeap(r, r.Intn(100)), api.Cell{Kind: 9}, api.Cell{A: 3})
		n := len(h) - 2
		roots := append(drawnRoots(r, n), 0, ref(n))
		live := append(drawnLive(r, h[:n]), true, false, true)
		if r.Intn(4) == 0 {
			spoilt(r, h[:n])
		}
		h2, roots2, live2 := slices.Clone(h), slices.Clone(roots), slices.Clone(live)
		a := ask(h[:n], live[:len(live)-3], r.Intn(18), roots[:len(roots)-2])
		if !slices.Equal(h, h2) || !slices.Equal(roots, roots2) || !slices.Equal(live, live2) {
			t.Fatalf("%s is changed", told(h2, roots2))
		}
		if a.markError != api.OK {
			refusals++
		}
	}
	if refusals < 300 {
		t.Errorf("only %d are refused", refusals)
	}
}

// TestRoomBehindIsNotRead: what lies behind a list's length is none of it: cells, roots, live ones (R10).
func TestRoomBehindIsNotRead(t *testing.T) {
	h := heapOf("r1 n, r0 n, n n, x0 n")
	live, roots := truths("110101"), wordsOf("r0 r9 x0")
	eachMany(func(workers int) {
		marksBy(t, h[:3], workers, roots[:1], truths("110"))
		marksBy(t, h[:3], workers, roots[:0], truths("000"))
		marksNot(t, h[:3], workers, api.ErrParForm, ref(3))
		marksNot(t, h[:1], workers, api.ErrParForm, ref(0))
		sweepsBy(t, h[:3], live[:3], workers, heapOf("r1 n, r0 n, free"), []int{2})
		sweepsNot(t, h[:3], live[:2], workers, api.ErrParForm)
		collectsBy(t, h[:3], workers, roots[:1], 2, heapOf("r1 n, r0 n, free"), []int{2})
		collectsBy(t, h[:0], workers, roots[:0], 0, nil, nil)
	})
}

// TestNotKept: what becomes of what was handed in, behind a call, is seen neither in what came out nor by later calls.
func TestNotKept(t *testing.T) {
	eachDrawn(242, func(r *rand.Rand, h []api.Cell, roots []api.Word) {
		live, workers := reachedAndUsed(t, h, roots), 1+r.Intn(16)
		h2, roots2, live2 := slices.Clone(h), slices.Clone(roots), slices.Clone(live)
		a := ask(h, live, workers, roots)
		want := a.clone()
		over(h, api.Cell{Kind: 77})
		over(roots, 0)
		over(live, true)
		if !a.is(want) {
			t.Fatalf("%s: what came out has changed", told(h2, roots2))
		}
		if !ask(h2, live2, workers, roots2).is(want) {
			t.Fatalf("%s: it is told otherwise", told(h2, roots2))
		}
	})
}

// TestWrittenOver: what its owner does with what came out, and with the room behind it, is seen in no other list, nor in what was handed in, nor by later calls.
func TestWrittenOver(t *testing.T) {
	eachDrawn(243, func(r *rand.Rand, h []api.Cell, roots []api.Word) {
		live, workers := reachedAndUsed(t, h, roots), 1+r.Intn(16)
		h2, roots2, live2 := slices.Clone(h), slices.Clone(roots), slices.Clone(live)
		first, second := ask(h, live, workers, roots), ask(h, live, workers, roots)
		want := second.clone()
		over(first.live, true)
		over(first.swept, api.Cell{Kind: 99})
		over(first.freed, -7)
		over(first.collected, api.Cell{Kind: 98})
		over(first.freedToo, -8)
		if !second.is(want) || !ask(h, live, workers, roots).is(want) {
			t.Fatalf("%s: it is seen", told(h, roots))
		}
		if !slices.Equal(h, h2) || !slices.Equal(roots, roots2) || !slices.Equal(live, live2) {
			t.Fatalf("%s is changed", told(h2, roots2))
		}
	})
}

// TestNothingIsShared: no two lists that came out have memory in common, nor with what was handed in (R2).
func TestNothingIsShared(t *testing.T) {
	if l := []int{1, 2, 3}; apart(spanOf(l[:1]), spanOf(l[2:])) || !apart(spanOf(l[:1:1]), spanOf(l[1:])) {
		t.Fatal("what is shared is not seen")
	}
	lists := 0
	eachDrawn(244, func(r *rand.Rand, h []api.Cell, roots []api.Word) {
		live := reachedAndUsed(t, h, roots)
		all := slices.Concat(spanOf(h), spanOf(live), spanOf(roots))
		var kept []answer
		for range 4 {
			a := ask(h, live, 1+r.Intn(16), roots)
			kept = append(kept, a)
			all = append(all, a.spans()...)
		}
		if !apart(all) {
			t.Fatalf("%s: memory is shared", told(h, roots))
		}
		lists += len(all)
		// A list that nobody has any more may have left its memory to a later one.
		runtime.KeepAlive(kept)
		runtime.KeepAlive([]any{h, roots, live})
	})
	if lists < 3000 {
		t.Errorf("only %d lists", lists)
	}
}

// TestNothingHeavyIsKept: calls without number leave no more memory in use than there was.
func TestNothingHeavyIsKept(t *testing.T) {
	h := tree(1023)
	inUse := func() int64 {
		var s runtime.MemStats
		runtime.GC()
		runtime.GC()
		runtime.ReadMemStats(&s)
		return int64(s.HeapAlloc)
	}
	par.Collect(h, 16, ref(0))
	was := inUse()
	for range 2000 {
		par.Collect(h, 4, ref(1))
	}
	if more := inUse() - was; more > 4<<20 {
		t.Errorf("%d bytes more", more)
	}
	runtime.KeepAlive(h)
}
