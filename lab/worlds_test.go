package lab_test

import (
	"fmt"
	"strings"
	"testing"
)

// begun is code, a world of it, and a thread.
func begun(text string, cells, locks int) string {
	return source(text) + lines(fmt.Sprintf("world %d %d", cells, locks), "start 0")
}

// behind is what a script tells behind what this one ahead of it tells.
func behind(t *testing.T, ahead string, more ...string) []string {
	t.Helper()
	s, was := told(t, ahead+lines(more...)), told(t, ahead)
	if !strings.HasPrefix(s, was) {
		t.Fatalf("%q tells %q, and with more behind it %q", cut(ahead), cut(was), cut(s))
	}
	s = s[len(was):]
	return strings.Split(strings.TrimSuffix(s, "\n"), "\n")
}

// then sees what a script tells behind what this one ahead of it tells.
func then(t *testing.T, ahead string, more []string, want ...string) {
	t.Helper()
	if s := differ(lines(behind(t, ahead, more...)...), lines(want...)); s != "" {
		t.Errorf("%q, behind that %q: %s", cut(ahead), more, s)
	}
}

// TestNeeds: each command with what it needs at hand, and without that.
func TestNeeds(t *testing.T) {
	for _, s := range shapes() {
		for _, at := range []struct {
			script string
			has    string
		}{
			{"", ""},
			{source("(if"), ""},
			{"data 1\n", ""},
			{"world 4 0\nbaton 4 0\nstart 0\n", ""},
			{source("1"), "code"},
			{source("1") + "world 3 0\n", "code"},
			{source("1") + "world 4 0\nworld 4 9\n", "code"},
			{source("1") + "world 4 0\n" + source("2"), "code"},
			{source("1") + "baton 4 0\n", "code"},
			{source("1") + "world 4 0\n", "code world"},
			{source("1") + "world 4 0\n" + source("(if"), "code world"},
			{source("1") + "world 4 0\nstart 0\nsettle 9\n", "code world"},
		} {
			got := behind(t, at.script, s.wellFormed())
			// There is no global to show: of that 'none' is told, too.
			want := !strings.Contains(at.has, s.needs) || s.word == "show"
			if is := len(got) == 1 && got[0] == "none"; is != want {
				t.Errorf("%q behind %q: %q", s.word, at.script, got)
			}
		}
	}
}

// TestNoneDoesNothing: what tells 'none' does nothing.
func TestNoneDoesNothing(t *testing.T) {
	all := lines("code", "world 4 0", "baton 4 0 1", "start 0", "collect", "pick 0", "settle 5", "par 1", "show 0", "ended 1")
	tells(t, all+"names\n"+consing()+all, append(strings.Split(strings.Repeat("none,", 10)+"names 0,source 1 0", ","),
		"code 8", "const int 5", "const nil", "proc 0", " const 0", " const 1", " prim 1", " prim 2", " return",
		"ok", "baton 1 2 running", "thread 1", "ok", "0 18 0 0 ? ? 1 n 0", "settled 5", "par 1 1 0", "none", "running")...)
}

// TestStart: a thread's number, or the error.
func TestStart(t *testing.T) {
	ahead := source("(define f (lambda (x) (lambda () x))) (define g (lambda () 5))") + "world 4 0\n"
	then(t, ahead, []string{"start 1", "start 4", "start 65535", "start 2", "start 0", "start 3"},
		"error 1", "error 1", "error 1", "thread 1", "thread 2", "thread 3")
	then(t, ahead, strings.Split(strings.Repeat("start 0,", 10)+"ready", ","),
		"thread 1", "thread 2", "thread 3", "thread 4", "thread 5", "thread 6", "thread 7", "thread 8", "error 194", "error 194", "ready 1 2 3 4 5 6 7 8")
	then(t, ahead, []string{"start 3", "settle 9", "ended 1"}, "thread 1", "settled 1", "= 5")
}

// TestCollect: as often as no cycle is asked for or runs.
func TestCollect(t *testing.T) {
	then(t, consing()+"world 4 0\n", []string{"phase", "collect", "collect", "phase", "pick 0", "collect", "settle 99", "phase", "collect", "settle 99", "phase"},
		"phase 0 0 0", "ok", "error 202", "phase 0 0 0", "0 18 0 0 ? ? 1 n 0", "error 202", "settled 6", "phase 0 1 7", "ok", "settled 7", "phase 0 2 14")
}

// TestPicks: who is ready is picked by the place, modulo how many are; nobody, if nobody is.
func TestPicks(t *testing.T) {
	then(t, source("(while #t (yield))")+"world 4 0\n", []string{
		"ready", "pick 0", "pick 65535", "start 0", "ready", "pick 0", "pick 65535", "start 0", "start 0", "ready", "pick 0", "pick 1", "pick 2", "pick 3", "pick 65535",
		"collect", "ready", "pick 0", "pick 1", "pick 3", "pick 4"},
		"ready", "idle", "idle", "thread 1", "ready 1", "1 15 0 0 ? ? 0 n 0", "1 15 0 0 ? ? 0 n 0", "thread 2", "thread 3", "ready 1 2 3",
		"1 15 0 0 ? ? 0 n 0", "2 15 0 0 ? ? 0 n 0", "3 15 0 0 ? ? 0 n 0", "1 15 0 0 ? ? 0 n 0", "1 15 0 0 ? ? 0 n 0",
		"ok", "ready 0 1 2 3", "0 18 0 0 ? ? 1 n 0", "1 15 0 0 ? ? 0 n 0", "3 15 0 0 ? ? 0 n 0", "0 20 0 0 ? ? 1 n 0")
	then(t, begun("1", 4, 0), []string{"pick 7", "ready", "pick 0", "pick 7", "phase"}, "1 17 0 0 ? i1 0 n 0", "ready", "idle", "idle", "phase 0 0 1")
}

// TestSteps: steps of all kinds as they are told.
func TestSteps(t *testing.T) {
	text := "(define p (cons 1 '())) (set-car! p #f) (define b (box 'a)) (cas b 'a 'b) (cas b 'a 'c) (set-box! b 1) (add b 2) (define u (spawn (lambda () (lock 1) 9))) (lock 1) (join u) (unlock 1) (yield) (join 3)"
	picks := strings.Split(strings.TrimSuffix(strings.Repeat("pick 0,", 40), ","), ",")
	then(t, begun(text, 9, 2), picks,
		"1 5 0 0 i1 nil 0 n 0",   // a pair is filled
		"1 8 0 0 none @0 0 n 0",  // p
		"1 7 0 0 @0 @0 0 n 0",    // p
		"1 2 0 0 i1 false 0 n 0", // set-car!
		"1 5 1 0 s0 nil 0 n 0",   // a box is filled
		"1 8 0 0 none @1 1 n 0",  // b
		"1 7 0 0 @1 @1 1 n 0",    // b
		"1 3 1 0 s0 s1 0 y 0",    // cas
		"1 7 0 0 @1 @1 1 n 0",    // b
		"1 3 1 0 s1 s1 0 n 0",    // cas: it is no more a
		"1 7 0 0 @1 @1 1 n 0",    // b
		"1 2 1 0 s1 i1 0 n 0",    // set-box!
		"1 7 0 0 @1 @1 1 n 0",    // b
		"1 4 1 0 i1 i3 0 n 0",    // add
		"1 5 2 0 i1 nil 0 n 0",   // a closure is filled
		"1 1 2 0 i1 i1 0 n 0",    // which procedure it has
		"1 1 2 1 nil nil 0 n 0",  // and which environment
		"1 9 0 0 ? @2 2 n 0",     // spawn
		"1 8 0 0 none i2 2 n 0",  // u
		"1 12 0 0 ? ? 1 n 0",     // lock
		"1 7 0 0 i2 i2 2 n 0",    // u
		"1 11 0 0 ? ? 2 n 0",     // it waits for the end of 2
		"2 13 0 0 ? ? 1 n 0",     // which waits for the lock
		"idle", "idle", "idle", "idle", "idle", "idle", "idle", "idle", "idle", "idle", "idle", "idle", "idle", "idle", "idle", "idle", "idle")
	then(t, begun("(define u (spawn (lambda () -9))) (join u) (lock 0) (unlock 0) (yield) (join 7)", 9, 1), picks[:14],
		"1 5 0 0 i1 nil 0 n 0", "1 1 0 0 i1 i1 0 n 0", "1 1 0 1 nil nil 0 n 0", "1 9 0 0 ? @0 2 n 0", "1 8 0 0 none i2 0 n 0", "1 7 0 0 i2 i2 0 n 0", "1 11 0 0 ? ? 2 n 0",
		"2 17 0 0 ? i-9 0 n 0", "1 10 0 0 ? i-9 2 n 0", "1 12 0 0 ? ? 0 n 0", "1 14 0 0 ? ? 0 n 0", "1 15 0 0 ? ? 0 n 0", "1 10 0 0 ? ? 7 n 190",
		"idle")
	// What a step of a thread shades; a thread that is asked lays its roots.
	then(t, begun("(define p (cons 1 (cons 2 3))) (set-cdr! p 4) (yield)", 9, 0),
		[]string{"settle 4", "collect", "pick 0", "pick 1", "pick 1", "pick 0", "pick 1", "ready", "pick 0", "pick 0", "pick 0", "pick 0"},
		"settled 4", "ok", "0 18 0 0 ? ? 1 n 0", "1 2 1 1 @0 i4 0 n 0 0", "1 15 0 0 ? ? 0 n 0", "0 19 0 0 ? ? 0 n 0 1", "1 17 0 0 ? none 0 n 0", "ready 0",
		"0 21 0 0 ? ? 1 n 0", "0 22 0 0 ? ? 0 n 0", "0 22 1 0 ? ? 0 n 0", "0 23 0 0 ? ? 0 n 0")
	then(t, begun("(cons (cons 1 2) (cons 3 (yield)))", 9, 0), []string{"settle 1", "collect", "pick 0", "pick 0", "ready", "pick 0", "ready"},
		"settled 1", "ok", "0 18 0 0 ? ? 1 n 0", "0 20 0 0 ? ? 1 n 0", "ready 1", "1 16 0 0 ? ? 0 n 0 0", "ready 0 1")
}

// TestSettle: as many steps as are gone.
func TestSettle(t *testing.T) {
	then(t, begun("(while #t (yield))", 4, 0), []string{"settle 0", "settle 1", "settle 99", "settle 65535", "phase"}, "settled 0", "settled 1", "settled 99", "settled 65535", "phase 0 0 65635")
	then(t, consing()+"world 4 0\n", []string{"settle 9", "start 0", "settle 2", "settle 9", "settle 9"}, "settled 0", "thread 1", "settled 2", "settled 1", "settled 0")
}

// look are the commands that look at a world.
func look() []string {
	return []string{"phase", "ready", "heap", "free", "waiting", "roots", "globals", "holds", "live", "par 3"}
}

// TestCycle: a collection stepped through to its end, with all that can be seen at each step.
func TestCycle(t *testing.T) {
	script := begun("(define x (cons 1 '())) (define y (box x)) (cons 7 8) (car x)", 5, 1)
	script += lines("settle 99", "ended 1", "show 0", "show 1", "show 2", "collect") + lines(look()...)
	want := []string{"source 1 2", "ok", "thread 1", "settled 9", "= 1", "= (1)", "= #box((1))", "none", "ok"}
	heap := []string{"heap 3", "0 1 0 i1 nil", "1 2 0 @0 nil", "2 1 0 i7 i8"}
	dead, freed := "free 3 4", "par 2 2 1 2"
	seen := func(phase, ready string) {
		want = append(append(append(want, phase, ready), heap...), dead, "waiting", "roots i1 @0 @1", "globals @0 @1", "y", "live 0 1", freed)
	}
	seen("phase 0 0 9", "ready 0")
	for _, step := range []struct {
		told, phase string
		change      func()
	}{
		{"0 18 0 0 ? ? 1 n 0", "phase 1 1 10", func() {}},
		{"0 19 0 0 ? ? 0 n 0 0", "phase 1 1 11", func() { heap[1] = "0 1 1 i1 nil" }},
		{"0 19 0 0 ? ? 1 n 0 1", "phase 1 1 12", func() { heap[2] = "1 2 1 @0 nil" }},
		{"0 21 0 0 ? ? 1 n 0", "phase 1 1 13", func() {}},
		{"0 22 0 0 ? ? 0 n 0", "phase 2 1 14", func() { heap[1] = "0 1 2 i1 nil" }},
		{"0 22 1 0 ? ? 0 n 0", "phase 2 1 15", func() { heap[2] = "1 2 2 @0 nil" }},
		{"0 23 0 0 ? ? 0 n 0", "phase 3 1 16", func() {}},
		{"0 24 0 0 ? ? 0 n 0", "phase 3 1 17", func() { heap[1] = "0 1 0 i1 nil" }},
		{"0 24 1 0 ? ? 0 n 0", "phase 3 1 18", func() { heap[2] = "1 2 0 @0 nil" }},
		{"0 24 2 0 ? ? 0 y 0", "phase 3 1 19", func() { heap, dead, freed = []string{"heap 2", heap[1], heap[2]}, "free 2 3 4", "par 2 2 0" }},
		{"0 24 3 0 ? ? 0 n 0", "phase 3 1 20", func() {}},
		{"0 24 4 0 ? ? 0 n 0", "phase 3 1 21", func() {}},
		{"0 25 0 0 ? ? 1 n 0", "phase 0 1 22", func() {}},
		{"idle", "phase 0 1 22", func() {}},
	} {
		script += "pick 0\n" + lines(look()...)
		want = append(want, step.told)
		step.change()
		ready := "ready 0"
		if strings.HasPrefix(step.phase, "phase 0") {
			ready = "ready"
		}
		seen(step.phase, ready)
	}
	tells(t, script, want...)
}

// TestWaiting: who waits for a cell, and since when; who is given one, and who is refused.
func TestWaiting(t *testing.T) {
	script := source("(cons 1 2)") + "world 4 0\n" + strings.Repeat("start 0\n", 6) + strings.Repeat("settle 6\n", 1)
	then(t, script, []string{"waiting", "free", "ready", "settle 9", "waiting", "ended 1", "ended 5", "roots"},
		"waiting 5:0 6:0", "free", "ready 1 2 3 4", "settled 4", "waiting 5:0 6:0", "= (1 . 2)", "running", "roots @0 @1 @2 @3 i1 i2 nil i1 i2 i1 i2 nil i1 i2")
	// All pairs are results, for ever: a cycle gives nothing back, and who waited ahead of it is refused.
	then(t, script+"settle 9\ncollect\nsettle 99\n", []string{"waiting", "ended 5", "ended 6", "phase", "heap"},
		"waiting", "error 121", "error 121", "phase 0 1 29", "heap 4", "0 1 0 i1 i2", "1 1 0 i1 i2", "2 1 0 i1 i2", "3 1 0 i1 i2")
	// Who begins to wait behind a cycle is told with how many had begun.
	then(t, source("(cons 1 2)")+"world 4 0\n"+strings.Repeat("start 0\n", 4)+"settle 99\ncollect\nsettle 99\ncollect\nsettle 99\nstart 0\npick 0\n", []string{"waiting", "ready"}, "waiting 5:2", "ready")
}

// TestEnded: of a thread that runs, that ended well, and in error, and of one that is not there.
func TestEnded(t *testing.T) {
	for _, row := range [][2]string{
		{"5", "= 5"}, {"#f", "= #f"}, {"#t", "= #t"}, {"'()", "= ()"}, {"(yield)", "= #none"}, {"car", "= #prim2"}, {"'if", "= if"}, {"(cons 'a '(b . c))", "= (a b . c)"},
		{"(lambda () 1)", "= #proc1(())"}, {"(box (box -1))", "= #box(#box(-1))"}, {"(define c (cons 1 2)) (set-cdr! c c) c", "= #0=(1 . #0#)"},
		{"(car 1)", "error 10"}, {"(error 1)", "error 184"}, {"(1)", "error 182"}, {"x", "error 185"}, {"((lambda (x) x))", "error 183"}, {"(lock 1)", "error 190"}, {"(unlock 0)", "error 192"}, {"(join 1)", "error 193"},
		{"(quotient 1 0)", "error 12"}, {"(* 576460752303423487 2)", "error 11"}, {"(define f (lambda (n) (+ 1 (f n)))) (f 1)", "error 181"},
	} {
		then(t, begun(row[0], 300, 1), []string{"ended 0", "ended 1", "ended 2", "settle 999", "ended 1", "ended 0", "ended 2", "ended 65535"},
			"error 201", "running", "error 201", "settled "+settled(t, row[0]), row[1], "error 201", "error 201", "error 201")
	}
	then(t, begun("(while #t (yield))", 4, 0), []string{"settle 500", "ended 1"}, "settled 500", "running")
}

// settled is how many steps a thread goes by itself.
func settled(t *testing.T, text string) string {
	t.Helper()
	l := behind(t, begun(text, 300, 1)+"settle 999\n", "phase")
	return strings.TrimPrefix(l[0], "phase 0 0 ")
}

// TestShow: of a global that is there, and of one that is not.
func TestShow(t *testing.T) {
	ahead := begun("(define l '(a (b 2))) (define r (cons l l)) (set-cdr! r r) (define n (lambda (x) unset)) (define b (box l))", 20, 0)
	then(t, ahead, []string{"show 0", "show 4", "show 5", "show 65535", "settle 99", "show 0", "show 1", "show 2", "show 3", "show 4", "show 5", "show 9"},
		"= #none", "= #none", "none", "none", "settled 18", "= (a (b 2))", "= #0=((a (b 2)) . #0#)", "= #proc1(())", "= #none", "= #box((a (b 2)))", "none", "none")
	then(t, begun("1", 4, 0), []string{"show 0", "globals"}, "none", "globals")
	then(t, source("x y z")+"world 4 0\n", []string{"globals", "roots", "show 2", "show 3"}, "globals none none none", "roots none none none", "= #none", "none")
}

// TestPar: by 1 to 16 workers the same, by others the error; the world stays as it is.
func TestPar(t *testing.T) {
	ahead := begun("(define l '(1 2 3)) (cons l l) (set! l (cdr l)) (while #t (yield))", 30, 0) + "settle 50\n"
	look := []string{"heap", "free", "phase", "roots", "live", "ready", "waiting", "holds"}
	want := behind(t, ahead, look...)
	for workers := range 20 {
		told := "par 2 2 2 2 3"
		if workers < 1 || workers > 16 {
			told = "error 1"
		}
		then(t, ahead, append([]string{fmt.Sprint("par ", workers)}, look...), append([]string{told}, want...)...)
	}
	then(t, ahead, []string{"par 65535"}, "error 1")
	then(t, ahead+"collect\nsettle 6\n", []string{"phase", "par 1", "par 16", "live"}, "phase 1 1 56", "par 2 2 2 2 3", "par 2 2 2 2 3", "live 0 1")
	then(t, ahead+"collect\nsettle 200\n", []string{"phase", "par 1", "par 16", "live"}, "phase 0 1 250", "par 2 2 0", "par 2 2 0", "live 0 1")
}

// TestBaton: a baton told as the chapter says: New's error, Steps, its goroutines, and what is told of thread 1.
func TestBaton(t *testing.T) {
	then(t, consing(), []string{
		"baton 3 0", "baton 4097 0", "baton 4 9", "baton 0 0 1 2 3", "baton 65535 65535",
		"baton 4 0", "baton 4 0 0", "baton 4 0 7 7", "baton 4 0 0 0 0", "baton 4096 8 1 2 3 4 5 6 65535"},
		"error 1", "error 1", "error 1", "error 1", "error 1",
		"baton 0 2 running", "baton 1 2 running", "baton 2 2 running", "baton 3 2 = 5", "baton 3 2 = 5")
	for picks := range 20 {
		// The second thread comes with the 4th step, the third one with the 9th; the first one ends with the 13th.
		want := fmt.Sprint("baton ", min(picks, 15), " 2 running")
		switch {
		case picks >= 13:
			want = fmt.Sprint("baton ", min(picks, 15), " 4 error 184")
		case picks >= 9:
			want = fmt.Sprint("baton ", picks, " 4 running")
		case picks >= 4:
			want = fmt.Sprint("baton ", picks, " 3 running")
		}
		then(t, source("(define u (spawn (lambda () (error 1)))) (spawn (lambda () (yield))) (join u)"), []string{"baton 4 0" + strings.Repeat(" 0", picks)}, want)
	}
	then(t, source("(cons 'a 'b)"), []string{"baton 4 0 0 0", "names"}, "baton 2 2 = (a . b)", "names 2", "a", "b")
	then(t, source("(car 5)"), []string{"baton 4 0 0 0"}, "baton 1 2 error 10")
}

// TestBatonIsByItself: it needs no world, changes none, and leaves none.
func TestBatonIsByItself(t *testing.T) {
	then(t, consing(), []string{"baton 4 0 0 0 0", "ready", "heap", "ended 1", "baton 4 0 0 0 0"}, "baton 3 2 = 5", "none", "none", "none", "baton 3 2 = 5")
	then(t, begun("(define x 1) (define y (cons x x))", 5, 0), []string{"settle 2", "baton 9 0 0 0 0 0", "baton 3 0 0", "phase", "show 0", "show 1", "settle 9", "show 1"},
		"settled 2", "baton 4 2 running", "error 1", "phase 0 0 2", "= 1", "= #none", "settled 4", "= (1 . 1)")
}

// TestTexts: what is told of words of each tag, in the heap, the roots, the globals.
func TestTexts(t *testing.T) {
	then(t, begun("(define a (cons '() #f)) (define b (cons #t (yield))) (define c (cons -5 'x)) (define d (cons car a)) (define e (box (lambda () 1))) (while #t (yield))", 9, 0),
		[]string{"settle 30", "heap", "roots", "globals"},
		"settled 30", "heap 6", "0 1 0 nil false", "1 1 0 true none", "2 1 0 i-5 s0", "3 1 0 p2 @0", "4 3 0 i1 nil", "5 2 0 @4 nil",
		"roots none nil @0 @1 @2 @3 @5", "globals @0 @1 @2 @3 @5")
}
