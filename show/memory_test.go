package show_test

import (
	"fmt"
	"math/rand"
	"slices"
	"strings"
	"sync"
	"testing"

	"dapple/api"
	"dapple/show"
)

// behind is a list in memory of its own, with some things in the room behind it.
func behind[T any](l []T, some ...T) []T {
	return append(slices.Clone(l), some...)[: len(l) : len(l)+len(some)]
}

// whole is all that a list's memory holds.
func whole[T any](l []T) []T { return l[:cap(l)] }

// said is all that the calls answer.
func said(h []api.Cell, names []string, v api.Word, g []api.Cell, w api.Word) string {
	s, e := show.Show(h, names, v)
	is, e2 := show.Alike(h, v, g, w)
	return fmt.Sprintf("%q %d %v %d", s, e, is, e2)
}

// TestWhatIsHandedInStays: neither it nor what lies behind it is changed, or read (R2, R10).
func TestWhatIsHandedInStays(t *testing.T) {
	r := rand.New(rand.NewSource(119))
	refusals := 0
	for range 8000 {
		h, v := drawnFrom(r, 7)
		g, w := disguised(r, h, v)
		list := names()[:2+r.Intn(2)]
		if r.Intn(4) == 0 {
			spoilt(r, h)
		}
		want := said(slices.Clone(h), list, v, slices.Clone(g), w)
		more := []api.Cell{{Kind: 9}, {Kind: api.KindBox}, {}}
		wide, wideG, wideList := behind(h, more...), behind(g, more...), behind(list, "1", list[0], "")
		before := fmt.Sprint(whole(wide), whole(wideG), whole(wideList))
		if got := said(wide, wideList, v, wideG, w); got != want {
			t.Fatalf("%s: %s, not %s", told(h, v), got, want)
		}
		if fmt.Sprint(whole(wide), whole(wideG), whole(wideList)) != before {
			t.Fatalf("%s is changed", told(h, v))
		}
		if strings.Contains(want, "110") {
			refusals++
		}
	}
	if refusals < 400 {
		t.Errorf("only %d are refused", refusals)
	}
}

// TestCellsAndNamesBehindTheList: what lies in the room behind is none of it.
func TestCellsAndNamesBehindTheList(t *testing.T) {
	h := heap("pair 1 nil, pair 2 c0")
	unfit(t, h[:1], ref(1))
	unfit(t, h[:0], ref(0))
	shows(t, h[:1], ref(0), "(1)")
	list := []string{"a", "b", "a"}
	showsBy(t, nil, list[:2], word("s1"), "b")
	refusedBy(t, nil, list[:1], word("s1"))
	refusedBy(t, nil, list, word("s1"))
}

// TestNothingIsKept: what was handed in is turned to other things behind the call, and what came out stays, and comes again.
func TestNothingIsKept(t *testing.T) {
	h, list := heap("pair s0 c1, box c0 nil"), []string{"a"}
	s, e := show.Show(h, list, ref(0))
	is, _ := show.Alike(h, ref(0), h, ref(0))
	list[0] = "b"
	h[0] = heap("closure 3 nil")[0]
	if s != "#0=(a . #box(#0#))" || e != api.OK || !is {
		t.Errorf("%q, %d, %v", s, e, is)
	}
	showsBy(t, h, list, ref(1), "#box(#proc3(()))")
	alike(t, h, ref(0), heap("pair s0 c1, box c0 nil"), ref(0), false)
	list[0], h[0] = "a", heap("pair s0 c1")[0]
	showsBy(t, h, list, ref(0), s)
}

// TestNilAndEmpty: one is as good as the other (R6).
func TestNilAndEmpty(t *testing.T) {
	for _, h := range [][]api.Cell{nil, {}} {
		for _, list := range [][]string{nil, {}} {
			showsBy(t, h, list, word("7"), "7")
			refusedBy(t, h, list, word("s0"))
			refusedBy(t, h, list, ref(0))
		}
		alike(t, h, word("7"), nil, word("7"), true)
		alike(t, h, word("7"), []api.Cell{}, word("8"), false)
	}
}

// TestAnswersHangOnWhatIsGivenAlone: asked by many at one time, of heaps of their own and of one, the calls answer the same.
func TestAnswersHangOnWhatIsGivenAlone(t *testing.T) {
	shared := heap("pair s0 c1, pair c3 c2, closure 4 c0, box c2 c1, free x0 x0")
	const want = "#0=(a #box(#1=#proc4(#0#)) . #1#)"
	var all sync.WaitGroup
	for seed := range 8 {
		all.Go(func() {
			r := rand.New(rand.NewSource(int64(seed % 2)))
			for range 300 {
				h, w := drawnFrom(r, 8)
				againstPlain(t, h, names(), w)
				shows(t, shared, ref(0), want)
				alike(t, shared, ref(0), turned(shared), ref(4), true)
			}
		})
	}
	all.Wait()
}
