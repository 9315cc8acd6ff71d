package barrier_test

import (
	"cmp"
	"fmt"
	"math/rand"
	"runtime"
	"slices"
	"sync"
	"testing"
	"unsafe"

	"dapple/api"
	"dapple/barrier"
)

// span is where a list's memory begins and ends, with the room behind it.
type span struct{ from, to uintptr }

// spanOf is a list's; nothing, if it has no memory.
func spanOf[T any](l []T) []span {
	if cap(l) == 0 {
		return nil
	}
	var one T
	from := uintptr(unsafe.Pointer(unsafe.SliceData(l)))
	return []span{{from, from + uintptr(cap(l))*unsafe.Sizeof(one)}}
}

// apart tells whether no two have memory in common.
func apart(spans ...[]span) bool {
	all := slices.Concat(spans...)
	slices.SortFunc(all, func(s, u span) int { return cmp.Compare(s.from, u.from) })
	for i := 1; i < len(all); i++ {
		if all[i].from < all[i-1].to {
			return false
		}
	}
	return true
}

// over lays another thing over all of a list, and into the room behind it.
func over[T any](l []T, one T) {
	for i := range l[:cap(l)] {
		l[:cap(l)][i] = one
	}
}

// spansOfView are those of all its lists.
func spansOfView(v api.View) []span {
	out := slices.Concat(spanOf(v.Cells), spanOf(v.Grey), spanOf(v.Globals), spanOf(v.Lanes))
	for _, l := range v.Lanes {
		out = append(out, spanOf(l.Roots)...)
	}
	return out
}

// overView lays other things over all that a view has.
func overView(v api.View) {
	for _, l := range v.Lanes {
		over(l.Roots, 0)
	}
	over(v.Cells, api.Cell{Kind: 9, Colour: 9})
	over(v.Grey, -7)
	over(v.Globals, 0)
	over(v.Lanes, api.Lane{})
}

// answers are all that the calls answer for a view and two words.
type answers struct {
	verdict
	store, fill []int
}

func ask(v api.View, a, b api.Word) answers {
	return answers{verdictOf(v), barrier.Store(v.Phase, false, a, b, v.Cells), barrier.Fill(v.Phase, false, a, b, v.Cells)}
}

func (o answers) spans() []span {
	return slices.Concat(spanOf(o.by), spanOf(o.well), spanOf(o.store), spanOf(o.fill))
}

func (o answers) scribble() {
	over(o.by, true)
	over(o.well, true)
	over(o.store, -7)
	over(o.fill, -7)
}

// said is all that was answered.
func (o answers) said() string { return fmt.Sprint(o) }

// eachDrawn hands on many drawn views, some of which may not be, with two words.
func eachDrawn(seed int64, do func(v api.View, a, b api.Word)) {
	r := rand.New(rand.NewSource(seed))
	for i := range 4000 {
		v := drawnView(r, 6)
		a, b := drawnWord(r, len(v.Cells)), drawnWord(r, len(v.Cells))
		if i%4 == 0 {
			spoilt(r, &v)
		}
		do(v, a, b)
	}
}

// TestNothingIsShared: neither with what was handed in, nor by two lists of one answer, nor by two answers (R2).
func TestNothingIsShared(t *testing.T) {
	if l := []int{1, 2, 3}; apart(spanOf(l[:1]), spanOf(l[2:])) || !apart(spanOf(l[:1:1]), spanOf(l[1:])) {
		t.Fatal("what is shared is not seen")
	}
	shaded := 0
	eachDrawn(137, func(v api.View, a, b api.Word) {
		one, two := ask(v, a, b), ask(v, a, b)
		if !apart(spansOfView(v), one.spans(), two.spans()) {
			t.Fatalf("%s shares memory", told(v))
		}
		// A list that nobody has any more may have left its memory to a later one.
		runtime.KeepAlive(v)
		want := two.said()
		one.scribble()
		if two.said() != want || ask(v, a, b).said() != want {
			t.Fatalf("%s: what came out is kept", told(v))
		}
		runtime.KeepAlive(one)
		overView(v)
		if two.said() != want {
			t.Fatalf("%s: what was handed in is kept", told(v))
		}
		shaded += len(two.store)
	})
	if shaded < 1000 {
		t.Errorf("only %d are shaded", shaded)
	}
}

// behind is a list in memory of its own, with some things in the room behind it.
func behind[T any](l []T, some ...T) []T {
	return append(slices.Clone(l), some...)[: len(l) : len(l)+len(some)]
}

// widened is a view whose lists all have something behind them.
func widened(v api.View) api.View {
	v.Cells = behind(v.Cells, heapOf("n n, grey r0 r0, x0 x0")...)
	v.Grey = behind(v.Grey, 0, 1, 2)
	v.Globals = behind(v.Globals, 0, ref(0), ref(99))
	v.Lanes = behind(v.Lanes, laneOf("r0"), laneOf("x0"), laneOf("s: r0"))
	for i, l := range v.Lanes {
		v.Lanes[i].Roots = behind(l.Roots, 0, ref(0), ref(99))
	}
	return v
}

// wide is all that a view has, with what lies behind its lists.
func wide(v api.View) string {
	s := fmt.Sprint(v.Phase, v.Swept, v.Laid, v.Cells[:cap(v.Cells)], v.Grey[:cap(v.Grey)], v.Globals[:cap(v.Globals)], v.Lanes[:cap(v.Lanes)])
	for _, l := range v.Lanes {
		s += fmt.Sprint(l.Roots[:cap(l.Roots)])
	}
	return s
}

// TestWhatIsHandedInStays: neither it nor what lies behind it is changed, or read (R2, R10).
func TestWhatIsHandedInStays(t *testing.T) {
	refusals := 0
	eachDrawn(138, func(v api.View, a, b api.Word) {
		want := ask(v, a, b).said()
		w := widened(v)
		before := wide(w)
		o := ask(w, a, b)
		if o.said() != want {
			t.Fatalf("%s: %s, not %s", told(v), o.said(), want)
		}
		o.scribble()
		if wide(w) != before {
			t.Fatalf("%s is changed", told(v))
		}
		if o.e != api.OK {
			refusals++
		}
	})
	if refusals < 400 {
		t.Errorf("only %d are refused", refusals)
	}
}

// TestRefsBehindTheHeap: a cell that lies in the room behind the list is none of it.
func TestRefsBehindTheHeap(t *testing.T) {
	h := heapOf("r1 n, r2 n, n n")
	shades(t, barrier.Store(api.PhaseMark, false, ref(2), ref(1), h[:2]), 1)
	shades(t, barrier.Fill(api.PhaseMark, false, ref(0), ref(0), h[:0]))
	refused(t, api.View{Cells: h[:2], Phase: api.PhaseMark})
	refused(t, api.View{Cells: h[:0], Phase: api.PhaseMark, Globals: wordsOf("r0")})
}

// TestRoomBehindIsNobodyElses: what is put behind a list that came out stands in no other one.
func TestRoomBehindIsNobodyElses(t *testing.T) {
	eachDrawn(139, func(v api.View, a, b api.Word) {
		o := ask(v, a, b)
		want := o.said()
		_ = append(o.by, true, true)
		_ = append(o.well, true, true)
		_ = append(o.store, -7, -7)
		_ = append(o.fill, -7, -7)
		if o.said() != want {
			t.Fatalf("%s: %s, not %s", told(v), o.said(), want)
		}
	})
}

// TestNilAndEmptyAreTheSame: as arguments (R6).
func TestNilAndEmptyAreTheSame(t *testing.T) {
	eachDrawn(140, func(v api.View, a, b api.Word) {
		w := cloned(v)
		for i := range w.Lanes {
			if len(w.Lanes[i].Roots) == 0 {
				w.Lanes[i].Roots = []api.Word{}
			}
		}
		w.Cells, w.Grey, w.Globals, w.Lanes = append([]api.Cell{}, w.Cells...), append([]int{}, w.Grey...), append([]api.Word{}, w.Globals...), append([]api.Lane{}, w.Lanes...)
		if got, want := ask(w, a, b).said(), ask(v, a, b).said(); got != want {
			t.Fatalf("%s: %s, not %s", told(v), got, want)
		}
	})
}

// TestAnswersHangOnWhatIsGivenAlone: asked by many at one time, of views of their own and of one, the calls answer the same.
func TestAnswersHangOnWhatIsGivenAlone(t *testing.T) {
	shared := viewOf("r1 n, n n, black r0 n, grey r0 r1, free x0 x0", "r2 | r1", "s: r1 r2", "r0", "e: r1")
	want := ask(shared, ref(1), ref(0)).said()
	var all sync.WaitGroup
	for seed := range 8 {
		all.Go(func() {
			r := rand.New(rand.NewSource(int64(seed % 2)))
			for range 300 {
				v := drawnView(r, 6)
				if got := verdictOf(v); !got.is(plainVerdict(v)) {
					t.Errorf("%s: %v", told(v), got)
				}
				if got := ask(shared, ref(1), ref(0)).said(); got != want {
					t.Errorf("%s, not %s", got, want)
				}
			}
		})
	}
	all.Wait()
}
