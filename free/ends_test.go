package free_test

import (
	"fmt"
	"slices"
	"strings"
	"testing"

	"dapple/api"
)

// forEver are ways to go on for ever without waiting.
func forEver() []string {
	return []string{"(while #t (yield))", "(while #t 0)", "(while #t (unbox b))", "(while #t (add b 1) (add b -1))", "(while #t (set! x y))", "(while #t (lock 1) (unlock 1))", "(while #t (cas b 1 2))", "(while #t (join 1))"}
}

// failsEach sees that a crew comes to an error each time.
func failsEach(t *testing.T, want api.Errno, runs int, bodies ...string) {
	t.Helper()
	c := compiled(t, crew(bodies...))
	for range runs {
		fails(t, want, api.Config{Cells: 100, Locks: 4}, c, crewProcs(c)...)
	}
	if t.Failed() {
		t.Fatalf("%q", bodies)
	}
}

// TestMuch: a loop without an end, alone, and beside threads that have ended, that wait for it, for another one, for a lock, and that
// go on for ever, too.
func TestMuch(t *testing.T) {
	t.Parallel()
	for _, s := range forEver() {
		failsEach(t, api.ErrFreeMuch, 1, s)
		failsEach(t, api.ErrFreeMuch, 1, s, "5", "(error 1)", "(car 1)")
		failsEach(t, api.ErrFreeMuch, 1, s, "(join 2)", "(join 3)", "(join 3)")
		failsEach(t, api.ErrFreeMuch, 1, "(lock 0) "+s, "(lock 0)", "(lock 0) 5", "5")
		failsEach(t, api.ErrFreeMuch, 1, s, "(lock 0) (lock 2)", "(lock 2) (lock 0)", "(join 5)")
		failsEach(t, api.ErrFreeMuch, 1, s, s, s, s, s, s, s)
		failsEach(t, api.ErrFreeMuch, 1, "(spawn (lambda () "+s+")) 5")
	}
	failsEach(t, api.ErrFreeMuch, 1, forEver()[:7]...)
}

// TestMuchOnOneProcessor: also where all others wait till it is one's turn.
func TestMuchOnOneProcessor(t *testing.T) {
	onProcessors(func() {
		failsEach(t, api.ErrFreeMuch, 2, "(while #t (yield))", "(while #t (yield))", "(join 2)", "5")
		failsEach(t, api.ErrFreeStuck, 20, "(join 3)", "(join 2)")
	})
}

// waitingFor is code of a thread that takes lock 0, spawns one that wants it, counts a box down, goes some breaths, and joins that one:
// when both wait, so many steps were gone.
func waitingFor(t *testing.T, n, yields int) (api.Code, int) {
	t.Helper()
	text := fmt.Sprintf("const int %d\nconst int 0\nconst int -1\nconst int 2\nglobal b\n", n) +
		"proc 0\n const 1\n lock\n pop\n closure 1\n spawn\n pop\n const 0\n prim 6\n setglobal 0\n pop\n const 1\n global 0\n const 2\n prim 10\n prim 20\n branch 17\n jump 10\n" +
		strings.Repeat(" yield\n pop\n", yields) + " const 3\n join\n return\nproc 0\n const 1\n lock\n return\n"
	const lock, closure, spawn, box, setGlobal, waits = 1, 1, 3, 1, 1, 2
	return parsed(t, text), lock + closure + spawn + box + setGlobal + 2*n + yields + waits
}

// TestNamedFirst: where the last step that may be is the one by which nobody goes any more, too many steps are told; with one step
// fewer, that nobody goes.
func TestNamedFirst(t *testing.T) {
	t.Parallel()
	least, most := api.MaxFreeRuns, 0
	for yields := range 8 {
		c, steps := waitingFor(t, 49994, yields)
		least, most = min(least, steps), max(most, steps)
		want := api.ErrFreeStuck
		if steps >= api.MaxFreeRuns {
			want = api.ErrFreeMuch
		}
		for range 3 {
			fails(t, want, api.Config{Cells: 4, Locks: 1}, c, 0)
		}
	}
	if least >= api.MaxFreeRuns-1 || most <= api.MaxFreeRuns {
		t.Error(least, most)
	}
}

// TestLastSteps: threads that go as many steps together as may be have an outcome; one step more, and they have none.
func TestLastSteps(t *testing.T) {
	t.Parallel()
	c := countdown(t, 49990, 0) // 99983 steps
	for yields := 10; yields < 20; yields++ {
		text := "const int 5\nproc 0\n" + strings.Repeat(" yield\n pop\n", yields) + " const 0\n return\n"
		both := c
		both.Procs = append(slices.Clone(c.Procs), parsed(t, text).Procs...)
		steps := 2*49990 + 3 + yields + 1
		if steps > api.MaxFreeRuns {
			fails(t, api.ErrFreeMuch, api.Config{Cells: 4}, both, 0, 1)
			continue
		}
		if o := comes(t, 4, 0, both, 0, 1); o.Steps != steps {
			t.Errorf("%d steps, not %d", o.Steps, steps)
		}
	}
}

// TestWaitsAreSteps: that one begins to wait is a step; how long it waits is none.
func TestWaitsAreSteps(t *testing.T) {
	joins := parsed(t, "const int 2\nproc 0\n const 0\n join\n return\nproc 0\n"+strings.Repeat(" yield\n pop\n", 20)+" const 0\n return\n")
	for range 200 {
		// It joins once, if it comes late, and else twice.
		if o := comes(t, 4, 0, joins, 0, 1); o.Steps != 21+2 && o.Steps != 21+3 {
			t.Fatal(o.Steps)
		}
	}
	locks := parsed(t, "const int 0\nproc 0\n const 0\n lock\n pop\n yield\n return\n")
	for range 200 {
		// Whether it waits or not, that is one step.
		if o := comes(t, 4, 1, locks, 0, 0, 0); o.Steps != 9 {
			t.Fatal(o.Steps)
		}
	}
}

// TestRings: two to seven that wait for each other, by joins; and others that wait for one of these, or have ended.
func TestRings(t *testing.T) {
	for n := 2; n <= 7; n++ {
		var ring []string
		for i := range n {
			ring = append(ring, fmt.Sprintf("(join %d)", 2+(i+1)%n))
		}
		failsEach(t, api.ErrFreeStuck, 30, ring...)
		ring[0] = "(lock 0) " + loop(20, "(yield)") + ring[0]
		failsEach(t, api.ErrFreeStuck, 30, ring...)
		if n > 5 {
			continue
		}
		failsEach(t, api.ErrFreeStuck, 30, append(ring, "(join 2)", "(join 3)")...)
		failsEach(t, api.ErrFreeStuck, 30, append(ring, "5", "(error 1)")...)
		failsEach(t, api.ErrFreeStuck, 30, append(ring, fmt.Sprint("(join ", n+3, ")"), "(join 2)")...)
	}
}

// TestRingOfAll: all eight threads that there can be.
func TestRingOfAll(t *testing.T) {
	text := ""
	for n := range 8 {
		text += fmt.Sprintf("const int %d\n", n+1)
	}
	for n := range 8 {
		text += fmt.Sprintf("proc 0\n const %d\n join\n return\n", (n+1)%8)
	}
	c := parsed(t, text)
	onProcessors(func() {
		for range 100 {
			fails(t, api.ErrFreeStuck, api.Config{Cells: 4}, c, 0, 1, 2, 3, 4, 5, 6, 7)
		}
	})
}

// TestStuckByLocks: who waits for a lock of one that waits for it, in some way; a lock that is held by one that waits for ever.
func TestStuckByLocks(t *testing.T) {
	for _, s := range []string{
		"(lock 0) (join (spawn (lambda () (lock 0))))",
		"(lock 0) (lock 1) (define t (spawn (lambda () (lock 1)))) (unlock 0) (join t)",
		"(lock 0) (join (spawn (lambda () (lock 1) (join (spawn (lambda () (lock 0)))))))",
		"(lock 0) (join (spawn (lambda () (lock 1) (join (spawn (lambda () (lock 1)))))))",
		"(define t (spawn (lambda () (lock 0) (join (spawn (lambda () (lock 0))))))) (join t)",
		"(lock 0) (define f (lambda () (lock 0) 5)) (spawn f) (spawn f) (join (spawn f))",
		"(lock 0) (spawn (lambda () 5)) (spawn (lambda () (error 1))) (join (spawn (lambda () (lock 0))))",
	} {
		c := compiled(t, s)
		onProcessors(func() {
			for range 50 {
				fails(t, api.ErrFreeStuck, api.Config{Cells: 50, Locks: 2}, c, 0)
			}
		})
		if t.Failed() {
			t.Fatal(s)
		}
	}
}

// TestNotStuck: who waits for one that can go on, however many others wait; and for a lock of one that has ended.
func TestNotStuck(t *testing.T) {
	late := loop(200, "(yield)")
	for _, bodies := range [][]string{
		{late + " 5", "(join 2)", "(join 3)", "(join 4)", "(join 5)", "(join 6)", "(join 7)"},
		{"(lock 0) " + late, "(lock 0)", "(lock 0)", "(lock 0)", "(lock 0)", "(lock 0)", "(lock 0)"},
		{"(lock 0) (error 1)", "(lock 0) (error 2)", "(lock 0) 5", "(lock 0)"},
		{"(lock 0) (lock 1) " + late, "(lock 0) (lock 1)", "(lock 1)", "(join 2) (lock 0) 5"},
		{"(lock 0) " + late + " (spawn (lambda () 5))", "(lock 0) (unlock 0)", "(join 2)"},
	} {
		c := compiled(t, crew(bodies...))
		onProcessors(func() {
			for range 30 {
				comes(t, 400, 2, c, crewProcs(c)...)
			}
		})
	}
}
