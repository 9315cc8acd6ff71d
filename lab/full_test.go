package lab_test

import (
	"math/rand"
	"strings"
	"testing"
)

// mostTold is how many bytes may be told.
const mostTold = 1048576

// wide is a script behind which there is code of a long text, and a world with a thread.
func wide() string {
	return source("(begin"+strings.Repeat(" 1", 2040)+")") + lines("world 4 0", "start 0")
}

// filling is such a script that tells just so many bytes.
func filling(t testing.TB, bytes int) string {
	t.Helper()
	ahead := len(told(t, wide()))
	one := len(told(t, wide()+"code")) - ahead
	script := wide() + strings.Repeat("code\n", (bytes-ahead)/one)
	left := (bytes - ahead) % one
	if left > 0 {
		script += "data " + symbols(t, left-len("data \n")) + "\n"
	}
	if got := len(told(t, script)); got != bytes {
		t.Fatalf("%d bytes are told, not %d", got, bytes)
	}
	return script
}

// symbols are some, with a blank between two, of just so many bytes.
func symbols(t testing.TB, bytes int) string {
	t.Helper()
	if bytes < 1 {
		t.Fatal("no symbols")
	}
	s := strings.Repeat("abcdefghi ", bytes/10+1)[:bytes]
	if rest, ok := strings.CutSuffix(s, " "); ok {
		s = rest + "j"
	}
	return s
}

// room is a script behind which just so many bytes may be told.
func room(t testing.TB, bytes int) string {
	t.Helper()
	return filling(t, mostTold-bytes)
}

// TestToldInAll: 1048576 bytes are told, newlines too; of one more, in the last line, 'full'.
func TestToldInAll(t *testing.T) {
	for _, line := range []string{"names", "data (a b c)", "code", "roots", "heap", "pick 0", "ready", "collect", "world 4 0", "world 3 0", "baton 4 0", "start 7", "live", "par 1", "data", "source\n1 2 3\n."} {
		want := behind(t, wide(), line)
		size := len(lines(want...))
		then(t, room(t, size), []string{line, "data"}, append(want, "full")...)
		then(t, room(t, size-1), []string{line}, "full")
	}
	then(t, room(t, 0), []string{"data", "names", "ready", "pick 0", "world 4 0"}, "full", "full", "full", "full", "full")
}

// TestFullIsNotCounted: it is told always, and what fits behind it is told.
func TestFullIsNotCounted(t *testing.T) {
	then(t, room(t, 0), strings.Split(strings.Repeat("code ", 500), " ")[:500], strings.Split(strings.Repeat("full ", 500), " ")[:500]...)
	then(t, room(t, 5), []string{"data abc", "code", "data", "data"}, "full", "full", "data", "full")
	then(t, room(t, 20), []string{"code", "code", "code", "data", "code", "data", "code", "data", "data", "data"},
		"full", "full", "full", "data", "full", "data", "full", "data", "data", "full")
	then(t, room(t, 17), []string{"ready", "code", "ready", "ready", "data"}, "ready 1", "full", "ready 1", "full", "full")
	then(t, room(t, 18), []string{"data abcdefghijkl", "data abcdefg", "data", "data"}, "data abcdefghijkl", "full", "full", "full")
}

// TestFullIsDone: a command in whose lines' place 'full' is told has been done.
func TestFullIsDone(t *testing.T) {
	then(t, room(t, 12), []string{"pick 0", "phase"}, "full", "phase 0 0 1")
	then(t, room(t, 12), []string{"start 0", "ready"}, "thread 2", "full")
	then(t, room(t, 12), []string{"code", "settle 500", "phase"}, "full", "settled 5", "full")
	then(t, room(t, 8), []string{"start 0", "start 0", "start 0"}, "full", "full", "full")
	then(t, room(t, 14), []string{"start 0", "start 0", "ended 3", "phase", "data"}, "thread 2", "full", "full", "full", "data")
	then(t, room(t, 24), []string{"start 0", "start 0", "ready"}, "thread 2", "thread 3", "full")
	then(t, room(t, 8), []string{"start 0", "pick 1", "pick 0", "pick 0", "data"}, "full", "full", "full", "full", "data")
	// Behind a source there is no world.
	then(t, room(t, 10), []string{"source", "1 2 3", ".", "phase", "world 4 0"}, "full", "none", "ok")
	then(t, room(t, 10), []string{"source", "1 2", ".", "world 4 0", "code", "ended 1"}, "full", "ok", "full", "full")
	then(t, room(t, 7), []string{"world 3 0", "collect", "phase"}, "full", "none", "full")
	then(t, room(t, 3), []string{"collect", "collect"}, "ok", "full")
	// What tells 'none' or an error is counted as all else.
	then(t, room(t, 9), []string{"show 9", "show 9", "data", "collect"}, "none", "full", "full", "ok")
	then(t, room(t, 10), []string{"start 9", "start 9"}, "error 1", "full")
}

// TestDrawnFull: drawn scripts behind which there is little room.
func TestDrawnFull(t *testing.T) {
	t.Parallel()
	for seed := range int64(16) {
		r := rand.New(rand.NewSource(seed))
		ahead := room(t, r.Intn(300))
		for range 4 {
			_, l := drawn(r.Int63())
			if script := ahead + strings.Join(l, "\n"); len(script) <= 65536 {
				held(t, script)
			}
		}
	}
}

// starredCommands are those of which the script may do 1000 in all.
func starredCommands() []string {
	var out []string
	for _, s := range shapes() {
		if s.starred {
			out = append(out, s.wellFormed())
		}
	}
	return out
}

// TestWorn: the 1000th starred command of each kind is done, the 1001st one is not.
func TestWorn(t *testing.T) {
	ahead := source("(define x 1) (while #t (yield))") + lines("world 4 0", "start 0")
	for _, c := range []struct {
		line, told string
	}{
		{"source\n'q\n.", "source 1 0"},
		{"source\n(if\n.", "error 60 4"},
		{"source\n(if)\n.", "error 70 0"},
		{"world 5 0", "ok"},
		{"world 3 0", "error 1"},
		{"baton 4 0 0", "baton 1 2 running"},
		{"baton 3 0 0", "error 1"},
		{"settle 0", "settled 0"},
		{"settle 2", "settled 2"},
		{"par 1", "par 0 0 0"},
		{"par 17", "error 1"},
	} {
		times := func(n int) []string { return strings.Split(strings.Repeat(c.line+"|", n), "|")[:n] }
		got := behind(t, ahead, times(1003)...)
		worn := 0
		for i, s := range got {
			if (s == "worn") != (i >= 998) {
				t.Fatalf("%q tells %q, the %dth time", c.line, s, i+1)
			}
			if s == "worn" {
				worn++
			}
		}
		if got[0] != c.told || worn != 5 {
			t.Errorf("%q tells %q; worn %d times", c.line, got[0], worn)
		}
	}
}

// TestWornDoesNothing: behind the 1000th one all is as it was, and goes on without such commands.
func TestWornDoesNothing(t *testing.T) {
	ahead := source("'a (while #t (yield))") + lines("world 4 0", "start 0") + strings.Repeat("settle 1\n", 997) + "settle 3\n"
	then(t, ahead, []string{
		"settle 9", "source", "'b", ".", "world 4 0", "world 3 0", "baton 4 0", "baton 3 0", "par 1", "par 0", "settle 0",
		"phase", "names", "code", "globals", "start 0", "pick 1", "pick 0", "collect", "pick 0", "ready", "ended 1", "data (a)", "holds", "live"},
		"worn", "worn", "worn", "worn", "worn", "worn", "worn", "worn", "worn",
		"phase 0 0 1000", "names 1", "a", "code 13", "const symbol 0", "const true", "const none", "proc 0", " const 0", " pop", " const 1", " branch 7", " yield", " pop", " jump 2", " const 2", " return",
		"globals", "thread 2", "2 15 0 0 ? ? 0 n 0", "1 15 0 0 ? ? 0 n 0", "ok", "0 18 0 0 ? ? 1 n 0", "ready 0 1 2", "running", "data (a)", "y", "live")
}

// TestAllStarredTogether: commands of all kinds are counted together, those that tell 'none' too.
func TestAllStarredTogether(t *testing.T) {
	l := starredCommands()
	if len(l) != 5 {
		t.Fatal(l)
	}
	var script []string
	for range 201 {
		script = append(script, l...)
	}
	tells := strings.Split(strings.TrimSuffix(told(t, lines(script...)), "\n"), "\n")
	for i, s := range tells {
		if (s == "worn") != (i >= 1000) {
			t.Fatalf("the %dth tells %q", i+1, s)
		}
	}
	for _, first := range l[1:] {
		got := strings.Split(told(t, strings.Repeat(first+"\n", 999)+source("1")+"world 4 0\nphase\ncode"), "\n")
		if got[0] != "none" || got[998] != "none" || got[999] != "source 1 0" || got[1000] != "worn" || got[1001] != "none" || got[1002] != "code 4" {
			t.Errorf("%q: %q", first, got[995:])
		}
		got = strings.Split(told(t, strings.Repeat(first+"\n", 1000)+source("1")+"code"), "\n")
		if got[999] != "none" || got[1000] != "worn" || got[1001] != "none" {
			t.Errorf("%q: %q", first, got[995:])
		}
	}
}

// TestOthersAreNotCounted: commands without a star are done as often as they stand there.
func TestOthersAreNotCounted(t *testing.T) {
	ahead := source("(while #t (yield))") + lines("world 4 0", "start 0")
	for _, s := range shapes() {
		if s.starred {
			continue
		}
		const times = 3000
		got := behind(t, ahead+strings.Repeat(s.wellFormed()+"\n", times), "par 1", "settle 1")
		if len(got) != 2 || got[0] != "par 0 0 0" || got[1] != "settled 1" {
			t.Errorf("behind %q: %q", s.word, got)
		}
		if text := told(t, ahead+strings.Repeat(s.wellFormed()+"\n", times)); strings.Contains(text, "worn") {
			t.Errorf("%q is counted", s.word)
		}
	}
}

// TestDrawnWorn: drawn scripts that have few starred commands left.
func TestDrawnWorn(t *testing.T) {
	t.Parallel()
	l := starredCommands()
	for seed := range int64(200) {
		r := rand.New(rand.NewSource(seed))
		var ahead strings.Builder
		for range 980 + r.Intn(21) {
			ahead.WriteString(l[r.Intn(len(l))] + "\n")
		}
		_, pieces := drawn(r.Int63())
		held(t, ahead.String()+strings.Join(pieces, "\n"))
	}
}
