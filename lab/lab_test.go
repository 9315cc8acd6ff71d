package lab_test

import (
	"fmt"
	"strings"
	"testing"

	"dapple/api"
	"dapple/lab"
)

// lines are a script's, or what is told: each with a newline behind it.
func lines(l ...string) string {
	if len(l) == 0 {
		return ""
	}
	return strings.Join(l, "\n") + "\n"
}

// cut is the beginning of a text that may be long.
func cut(s string) string {
	if len(s) > 300 {
		return s[:300] + " .."
	}
	return s
}

// told is what a script tells that may be.
func told(t testing.TB, script string) string {
	t.Helper()
	s, line, e := lab.Run(script)
	if line != 0 || e != api.OK {
		t.Fatalf("%q: line %d, %d", cut(script), line, e)
	}
	return s
}

// differ tells of the first line in which two texts are unlike; nothing, if they are not.
func differ(got, want string) string {
	if got == want {
		return ""
	}
	g, w := strings.Split(got, "\n"), strings.Split(want, "\n")
	for i := range min(len(g), len(w)) {
		if g[i] != w[i] {
			return fmt.Sprintf("line %d is %q, not %q", i+1, cut(g[i]), cut(w[i]))
		}
	}
	return fmt.Sprintf("%d lines, not %d: %q, not %q", len(g)-1, len(w)-1, cut(strings.Join(g[min(len(g), len(w)):], "\n")), cut(strings.Join(w[min(len(g), len(w)):], "\n")))
}

// tells sees that a script tells these lines, and nothing else.
func tells(t testing.TB, script string, want ...string) {
	t.Helper()
	if s := differ(told(t, script), lines(want...)); s != "" {
		t.Errorf("%q: %s", cut(script), s)
	}
}

// refuses sees that a script is given up because of that line.
func refuses(t testing.TB, script string, want int) {
	t.Helper()
	if s, line, e := lab.Run(script); s != "" || line != want || e != api.ErrLabLine {
		t.Errorf("%q: %q, line %d, %d, not line %d", cut(script), cut(s), line, e, want)
	}
}

// source is the lines by which there is code of this text.
func source(text string) string { return lines("source", text, ".") }

// consing is the code of the chapter's examples.
func consing() string { return source("(car (cons 5 (quote ())))") }

// TestErrorNumbers: as the chapter lists them.
func TestErrorNumbers(t *testing.T) {
	if api.ErrLabLine != 260 || api.ErrLabLong != 261 {
		t.Error(api.ErrLabLine, api.ErrLabLong)
	}
}

// TestExample1: a wrong line; what is not there; data.
func TestExample1(t *testing.T) {
	refuses(t, "fly", 1)
	tells(t, "world 4 0", "none")
	tells(t, "data (a . (b c))", "data (a b c)")
	tells(t, "data (", "error 60 1")
}

// example2 is that of the chapter.
func example2() string {
	return consing() + lines("code", "world 4 0", "start 0", "pick 0", "settle 9", "ended 1", "heap", "live", "par 2")
}

// toldBy2 is what it tells.
func toldBy2() []string {
	return []string{
		"source 1 0",
		"code 8", "const int 5", "const nil", "proc 0", " const 0", " const 1", " prim 1", " prim 2", " return",
		"ok", "thread 1", "1 5 0 0 i5 nil 0 n 0",
		"settled 2", "= 5", "heap 1", "0 1 0 i5 nil",
		"live", "par 0 0 1 0",
	}
}

// TestExample2: code, a world, a thread.
func TestExample2(t *testing.T) { tells(t, example2(), toldBy2()...) }

// TestExample3: behind that a cycle, and a baton.
func TestExample3(t *testing.T) {
	tells(t, example2()+lines("collect", "settle 99", "phase", "baton 4 0 0 0 0 0"),
		append(toldBy2(), "ok", "settled 8", "phase 0 1 11", "baton 3 2 = 5")...)
}

// TestNothing: an empty script, and such as have no line that says something.
func TestNothing(t *testing.T) {
	for _, s := range []string{"", "\n", "\n\n\n", " ", "\t", " \t \n\t\t\n", "#", "# fly", " \t# fly\n#\n\t#fly", "#fly\n\n# source"} {
		tells(t, s)
	}
}
