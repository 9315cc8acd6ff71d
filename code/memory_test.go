package code_test

import (
	"cmp"
	"math/rand"
	"slices"
	"strings"
	"sync"
	"testing"
	"unsafe"

	"dapple/api"
	"dapple/code"
)

// span is where a list's memory begins and ends, with the room behind it.
type span struct{ from, to uintptr }

// spanOf is a list's; nothing, if it has no memory.
func spanOf[T any](l []T) []span {
	if cap(l) == 0 {
		return nil
	}
	var one T
	from := uintptr(unsafe.Pointer(unsafe.SliceData(l)))
	return []span{{from, from + uintptr(cap(l))*unsafe.Sizeof(one)}}
}

// spanOfText is a text's.
func spanOfText(s string) []span {
	if s == "" {
		return nil
	}
	from := uintptr(unsafe.Pointer(unsafe.StringData(s)))
	return []span{{from, from + uintptr(len(s))}}
}

// spansOf are those of all lists and names of code.
func spansOf(c api.Code) []span {
	out := slices.Concat(spanOf(c.Consts), spanOf(c.Globals), spanOf(c.Procs))
	for _, p := range c.Procs {
		out = append(out, spanOf(p.Code)...)
	}
	for _, name := range c.Globals {
		// A name of one byte may stand where all such names do.
		if len(name) > 1 {
			out = append(out, spanOfText(name)...)
		}
	}
	return out
}

// apart tells whether no two have memory in common.
func apart(spans ...[]span) bool {
	all := slices.Concat(spans...)
	slices.SortFunc(all, func(s, u span) int { return cmp.Compare(s.from, u.from) })
	for i := 1; i < len(all); i++ {
		if all[i].from < all[i-1].to {
			return false
		}
	}
	return true
}

// TestNothingIsShared: neither with the text that was handed in, nor by two lists of one answer, nor by two answers (R2).
func TestNothingIsShared(t *testing.T) {
	if l := []int{1, 2, 3}; apart(spanOf(l[:1]), spanOf(l[2:])) || !apart(spanOf(l[:1:1]), spanOf(l[1:])) {
		t.Fatal("what is shared is not seen")
	}
	if s := strings.Repeat("x", 9); apart(spanOfText(s), spanOfText(s[3:5])) {
		t.Fatal("what is shared is not seen")
	}
	r := rand.New(rand.NewSource(94))
	for range 3000 {
		s, e := code.Text(drawnCode(r))
		if e != api.OK {
			t.Fatal(e)
		}
		again, _, _ := code.Parse(s)
		other, _ := code.Text(again)
		c, _, _ := code.Parse(s)
		if !apart(spansOf(c), spansOf(again), spanOfText(s), spanOfText(other)) {
			t.Fatalf("%q shares memory", s)
		}
	}
}

// roomy is code in memory with room behind each list, in which something stands that may not be.
func roomy(c api.Code) api.Code {
	procs := make([]api.Proc, 0, len(c.Procs)+2)
	for _, p := range c.Procs {
		p.Code = behind(p.Code, api.Instr{Op: 99, A: -1}, api.Instr{Op: api.OpReturn})
		procs = append(procs, p)
	}
	return api.Code{Consts: behind(c.Consts, 0, 85), Globals: behind(c.Globals, "", "x"), Procs: behind(procs, api.Proc{Params: -1}, api.Proc{Code: asm("jump 0")})}
}

// behind is a list in memory of its own, with two things in the room behind it.
func behind[T any](l []T, one, two T) []T {
	return append(slices.Clone(l), one, two)[:len(l)]
}

// whole tells all of code, with the room behind its lists.
func whole(c api.Code) string {
	wide := api.Code{Consts: c.Consts[:cap(c.Consts)], Globals: c.Globals[:cap(c.Globals)], Procs: slices.Clone(c.Procs[:cap(c.Procs)])}
	for i := range wide.Procs {
		wide.Procs[i].Code = wide.Procs[i].Code[:cap(wide.Procs[i].Code)]
	}
	return dump(wide)
}

// TestWhatIsHandedInStays: neither it nor what lies behind it is changed, or read (R2, R10).
func TestWhatIsHandedInStays(t *testing.T) {
	r := rand.New(rand.NewSource(95))
	for range 4000 {
		c := drawnCode(r)
		for range r.Intn(3) {
			c = spoilt(r, c)
		}
		wide := roomy(c)
		before := whole(wide)
		checks(t, wide, plainCheck(c))
		narrow, _ := code.Text(c)
		if s, _ := code.Text(wide); s != narrow {
			t.Errorf("%q and %q", s, narrow)
		}
		sameBoth(t, wide, c, true)
		if whole(wide) != before {
			t.Fatalf("%s is changed", dump(c))
		}
	}
	// What lies behind may be different, or make a list too long.
	a, b := roomy(sample()), roomy(sample())
	b.Procs[0].Code[:cap(b.Procs[0].Code)][3] = api.Instr{Op: api.OpPop}
	sameBoth(t, a, b, true)
	many := slices.Repeat([]api.Word{85}, 2000)
	checks(t, api.Code{Consts: many[:1024], Procs: sample().Procs[1:]}, mayBe)
}

// TestNothingIsKeptByCalls: what is changed in what was handed in, or came out, is not seen in a later answer, nor in an earlier one.
func TestNothingIsKeptByCalls(t *testing.T) {
	c := sample()
	s, _ := code.Text(c)
	scribble(c)
	if s != sampleText {
		t.Errorf("Text keeps what was handed in: %q", s)
	}
	bytes := []byte(sampleText)
	first, _, _ := code.Parse(string(bytes))
	second, _, _ := code.Parse(sampleText)
	scribble(first)
	if !same(second, sample()) {
		t.Errorf("Parse keeps what came out: %s", dump(second))
	}
	third, e, line := code.Parse(sampleText)
	if !same(third, sample()) || e != api.OK || line != 0 {
		t.Errorf("Parse keeps what came out: %s, %d, %d", dump(third), e, line)
	}
}

// scribble lays other things over all that code's lists hold, and into the room behind them.
func scribble(c api.Code) {
	for i := range c.Procs {
		l := c.Procs[i].Code[:cap(c.Procs[i].Code)]
		for at := range l {
			l[at] = api.Instr{Op: 99, A: 77}
		}
		c.Procs[i] = api.Proc{Params: 77}
	}
	for i := range c.Consts[:cap(c.Consts)] {
		c.Consts[:cap(c.Consts)][i] = 77
	}
	for i := range c.Globals[:cap(c.Globals)] {
		c.Globals[:cap(c.Globals)][i] = "over"
	}
}

// TestRoomBehindIsNobodyElses: what is put behind a list that came out stands in no other one.
func TestRoomBehindIsNobodyElses(t *testing.T) {
	r := rand.New(rand.NewSource(96))
	for range 1000 {
		s, _ := code.Text(drawnCode(r))
		c, _, _ := code.Parse(s)
		kept := copied(c)
		_ = append(c.Consts, 0, 0, 0)
		_ = append(c.Globals, "over", "over")
		for _, p := range c.Procs {
			_ = append(p.Code, times(5, 99)...)
		}
		_ = append(c.Procs, api.Proc{}, api.Proc{})
		if !same(c, kept) {
			t.Fatalf("%s, not %s", dump(c), dump(kept))
		}
	}
}

// TestAnswersHangOnWhatIsGivenAlone: asked by many at one time, and again, the calls answer the same.
func TestAnswersHangOnWhatIsGivenAlone(t *testing.T) {
	var all sync.WaitGroup
	for seed := range 8 {
		all.Go(func() {
			r := rand.New(rand.NewSource(int64(seed % 2)))
			for range 300 {
				c := drawnCode(r)
				checks(t, c, mayBe)
				c = spoilt(r, c)
				checks(t, c, plainCheck(c))
			}
		})
	}
	all.Wait()
}
