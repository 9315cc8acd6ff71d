package lab_test

import (
	"cmp"
	"math/rand"
	"runtime"
	"slices"
	"strings"
	"testing"
	"unsafe"

	"dapple/lab"
)

// span is where a text's memory begins and ends.
type span struct{ from, to uintptr }

// spansOf are those of texts that have memory.
func spansOf(l ...string) []span {
	var out []span
	for _, s := range l {
		if s != "" {
			from := uintptr(unsafe.Pointer(unsafe.StringData(s)))
			out = append(out, span{from, from + uintptr(len(s))})
		}
	}
	return out
}

// apart tells whether no two have memory in common.
func apart(all []span) bool {
	slices.SortFunc(all, func(s, u span) int { return cmp.Compare(s.from, u.from) })
	for i := 1; i < len(all); i++ {
		if all[i].from < all[i-1].to {
			return false
		}
	}
	return true
}

// TestNothingIsShared: what is told has memory of its own: none of the script's, none of another answer's (R2).
func TestNothingIsShared(t *testing.T) {
	if s := "abc" + strings.Repeat("d", 9); apart(spansOf(s, s[1:2])) {
		t.Fatal("what is shared is not seen")
	}
	var all, kept []string
	for seed := range int64(60) {
		script := strings.Join(drawnWell(seed), "\n") + "\ndata abcdefghijklmnopqrstuvwxyz\n"
		all = append(all, script, told(t, script), told(t, script))
		all = append(all, lab.Many(script, script)...)
		kept = append(kept, script)
	}
	if !apart(spansOf(all...)) {
		t.Error("some have memory in common")
	}
	runtime.KeepAlive(kept)
}

// TestListsAreApart: what Many answers is a list of its own, and the scripts that were handed in stay.
func TestListsAreApart(t *testing.T) {
	scripts := []string{"names", "fly", "data a", ""}[:3:4]
	first := lab.Many(scripts...)
	second := lab.Many(scripts...)
	for i := range first[:cap(first)] {
		first[:cap(first)][i] = "written"
	}
	if !slices.Equal(second, []string{"names 0\n", "wrong 260 1\n", "data a\n"}) || !slices.Equal(scripts, []string{"names", "fly", "data a"}) {
		t.Error(second, scripts)
	}
	// What lies behind a list's length is not looked at.
	room := []string{"names", "source\n'a\n.\nnames", "fly"}
	if l := lab.Many(room[:1]...); len(l) != 1 || l[0] != "names 0\n" {
		t.Error(l)
	}
}

// held is how much memory is in use.
func heldMemory() uint64 {
	for range 3 {
		runtime.GC()
	}
	var m runtime.MemStats
	runtime.ReadMemStats(&m)
	return m.HeapAlloc
}

// TestNothingIsKept: of scripts that were run, also of such as were refused, no memory is in use.
func TestNothingIsKept(t *testing.T) {
	r := rand.New(rand.NewSource(3))
	run := func() {
		head := source("(define l '()) (define n 4000) (while (< 0 n) (set! l (cons n l)) (set! n (- n 1))) (while #t (yield))")
		script := head + strings.Repeat("world 4096 8\nstart 0\nsettle 5000\nheap\nbaton 4096 8 0 0\n", 10) + "source\n" + strings.Repeat("'abcdefgh", r.Intn(500)) + "\n.\n"
		lab.Run(script)
		lab.Run(script + "fly")
		lab.Many(script, script, "fly", script+"source")
	}
	run()
	was := heldMemory()
	for range 12 {
		run()
	}
	if is := heldMemory(); is > was+1<<20 {
		t.Errorf("%d bytes are in use, and %d ahead", is, was)
	}
}

// TestToldIsKeptAlone: who keeps what was told keeps not much more than that: none of the worlds.
func TestToldIsKeptAlone(t *testing.T) {
	var kept []string
	was := heldMemory()
	size := 0
	for range 30 {
		kept = append(kept, told(t, consing()+strings.Repeat("world 4096 8\nstart 0\nsettle 9\nheap\ndata (a b c)\n", 60)))
		size += len(kept[len(kept)-1])
	}
	if is := heldMemory(); is > was+uint64(3*size)+1<<19 {
		t.Errorf("%d bytes are in use for %d that were told, and %d ahead", is, size, was)
	}
	runtime.KeepAlive(kept)
}
