package free_test

import (
	"fmt"
	"math/rand"
	"testing"

	"dapple/api"
	"dapple/free"
	"dapple/words"
)

// told is what an outcome's threads end with, and what its globals have; of threads that make as much as they have to, whoever
// comes first, its cells with them.
func told(t testing.TB, o free.Outcome, all bool) string {
	t.Helper()
	if !all {
		o.Heap = reached(o)
	}
	return look(t, o)
}

// reached is the heap of what an outcome's threads and globals reach: all else is free.
func reached(o free.Outcome) []api.Cell {
	out := make([]api.Cell, len(o.Heap))
	var visit func(w api.Word)
	visit = func(w api.Word) {
		cell, ok := words.Cell(w)
		if !ok || out[cell].Kind != api.KindFree {
			return
		}
		out[cell] = o.Heap[cell]
		visit(out[cell].A)
		visit(out[cell].B)
	}
	for _, x := range o.Ended {
		visit(x.Word)
	}
	for _, w := range o.Globals {
		visit(w)
	}
	return out
}

// anyPicks is what a program comes to under drawn picks, which must be the same each time.
func anyPicks(t *testing.T, c api.Config, program api.Code, all bool, procs ...int) string {
	t.Helper()
	want := ""
	for seed := range int64(12) {
		r := rand.New(rand.NewSource(seed))
		p := newPlay(t, c, program, procs)
		steady := 1 + r.Intn(20)
		for still := 0; still < 400; {
			thread := 1 + r.Intn(p.threads)
			for range steady {
				if !p.goes(thread) {
					still++
					break
				}
				still = 0
			}
		}
		o := free.Outcome{Globals: p.Model.Globals(), Heap: p.Model.Heap(), Threads: p.threads}
		for n := range procs {
			end, _ := p.Ended(n + 1)
			o.Ended = append(o.Ended, end)
		}
		got := told(t, o, all)
		if want == "" {
			want = got
		}
		if got != want {
			t.Fatalf("it hangs on who is picked: %s, %s", got, want)
		}
	}
	return want
}

// anyOrder sees that a program that comes to one thing under all picks comes to that, each time, on few processors and on many.
func anyOrder(t *testing.T, c api.Config, program api.Code, all bool, procs ...int) string {
	t.Helper()
	want := anyPicks(t, c, program, all, procs...)
	onProcessors(func() {
		for range 40 {
			if got := told(t, comes(t, c.Cells, c.Locks, program, procs...), all); got != want {
				t.Fatalf("%s, not %s", got, want)
			}
		}
	})
	return want
}

// crewOf is a crew of so many threads with one body.
func crewOf(t *testing.T, threads int, body string) (api.Code, []int) {
	t.Helper()
	program := compiled(t, crew(body))
	procs := crewProcs(program)
	for len(procs) < 1+threads {
		procs = append(procs, procs[1])
	}
	return program, procs
}

// loop is a body that is gone through so many times.
func loop(times int, body string) string {
	return fmt.Sprintf("(let ((i 0)) (while (< i %d) %s (set! i (+ i 1))))", times, body)
}

// TestAnyOrder: many threads of one crew, each as often as it says.
func TestAnyOrder(t *testing.T) {
	for _, row := range []struct {
		name, body string
		times      int
		all        bool // they make the same cells, whoever comes first
		x, b, p    string
	}{
		{"adds", "(add b 3)", 60, true, "0", "#box(1260)", "(0 . 0)"},
		{"adds and takes away", "(add b 5) (add b -7)", 40, true, "0", "#box(-560)", "(0 . 0)"},
		{"exchanges", "(let ((done #f)) (while (not done) (let ((o (unbox b))) (set! done (cas b o (+ o 2))))))", 25, false, "0", "#box(350)", "(0 . 0)"},
		{"exchanges the other way", "(while (not (let ((o (unbox b))) (cas b o (- 1 o)))) (yield))", 25, false, "0", "#box(1)", "(0 . 0)"},
		{"changes a pair under a lock", "(lock 0) (set-car! p (+ (car p) 1)) (set-cdr! p (- (cdr p) 1)) (unlock 0)", 30, true, "0", "#box(0)", "(210 . -210)"},
		{"changes a global under a lock", "(lock 1) (set! x (+ x 1)) (unlock 1)", 30, true, "210", "#box(0)", "(0 . 0)"},
		{"changes under locks in a row", "(lock 0) (lock 1) (set! x (+ x 1)) (unlock 1) (set-car! p (+ (car p) 1)) (unlock 0)", 20, true, "140", "#box(0)", "(140 . 0)"},
		{"makes once by a cas", "(if (cas b 0 9) (set! x (+ x 1)))", 10, true, "1", "#box(9)", "(0 . 0)"},
		{"makes once under a lock", "(lock 0) (if (eq? x 0) (begin (set! x (cons 1 2)) (add b 1))) (unlock 0)", 10, true, "(1 . 2)", "#box(1)", "(0 . 0)"},
		{"makes a ring once", "(lock 0) (if (not (pair? x)) (begin (set! x (cons 1 2)) (set-cdr! x x))) (unlock 0)", 5, true, "#0=(1 . #0#)", "#box(0)", "(0 . 0)"},
		{"by turns, under a lock", "(lock 0) (set-box! b (+ 1 (unbox b))) (unlock 0) (yield)", 20, true, "0", "#box(140)", "(0 . 0)"},
	} {
		program, procs := crewOf(t, 7, loop(row.times, row.body))
		o := comes(t, 4096, 2, program, procs...)
		for i, want := range []string{row.x, "0", row.b, row.p} {
			if got := shown(t, o.Heap, o.Globals[i]); got != want {
				t.Errorf("%s: %s, not %s", row.name, got, want)
			}
		}
		anyOrder(t, api.Config{Cells: 4096, Locks: 2}, program, row.all, procs...)
		if t.Failed() {
			t.Fatal(row.name)
		}
	}
}

// TestAnyOrderOfSpawns: threads that are spawned, and joined, each from another one: what the first one ends with.
func TestAnyOrderOfSpawns(t *testing.T) {
	for source, want := range map[string]string{
		"(define b (box 0)) (define w (lambda (n) (lambda () " + loop(9, "(add b n)") + "))) (define x (spawn (w 1))) (define y (spawn (w 10))) (define z (spawn (w 100))) (join x) (join y) (join z) (unbox b)":                                                                                                   "999",
		"(define w (lambda (n) (if (< n 2) n (let ((t (spawn (lambda () (w (- n 1)))))) (+ (join t) n))))) (w 8)":                                                                                                                                                                                                  "36",
		"(define f (lambda (n) (if (eq? n 0) 1 (let ((t (spawn (lambda () (f (- n 1))))) (u (f (- n 1)))) (+ u (join t)))))) (f 3)":                                                                                                                                                                                "8",
		"(define rev (lambda (l a) (if (null? l) a (rev (cdr l) (cons (car l) a))))) (define u (spawn (lambda () (rev (rev '(1 2 3) '()) '())))) (cons (rev '(4 5) '()) (rev (join u) '()))":                                                                                                                       "((5 4) 3 2 1)",
		"(define a (spawn (lambda () (cons 1 2)))) (define b (spawn (lambda () (cons 0 (join a))))) (cons (join b) (join a))":                                                                                                                                                                                      "((0 . #0=(1 . 2)) . #0#)",
		"(define once (box '())) (define get (lambda () (if (null? (unbox once)) (cas once '() (cons 1 2))) (unbox once))) (define x (spawn get)) (define y (spawn get)) (define z (get)) (cons (eq? z (join x)) (eq? z (join y)))":                                                                                "(#t . #t)",
		"(define o '()) (define get (lambda () (lock 0) (if (null? o) (set! o (cons 1 2))) (unlock 0) o)) (define x (spawn get)) (define y (spawn get)) (define z (get)) (cons (eq? z (join x)) (eq? z (join y)))":                                                                                                 "(#t . #t)",
		"(define s (box '())) (define push (lambda (v) (let ((o (unbox s))) (if (cas s o (cons v o)) v (push v))))) (define w (lambda () (push 1) (push 2))) (define x (spawn w)) (define y (spawn w)) (w) (join x) (join y) (define sum (lambda (l) (if (null? l) 0 (+ (car l) (sum (cdr l)))))) (sum (unbox s))": "9",
	} {
		program := compiled(t, source)
		onProcessors(func() {
			for range 40 {
				o := comes(t, 4096, 1, program, 0)
				if got := shown(t, o.Heap, o.Ended[0].Word); got != want || o.Ended[0].Err != api.OK {
					t.Fatalf("%s: %s, %v, not %s", source, got, o.Ended, want)
				}
			}
		})
	}
}

// TestEachSumOnce: of all that threads add to one box each is told a sum of its own.
func TestEachSumOnce(t *testing.T) {
	const times = 30
	program, procs := crewOf(t, 7, "(let ((l '()) (i 0)) (while (< i 30) (set! l (cons (add b 1) l)) (set! i (+ i 1))) l)")
	for range 40 {
		o := comes(t, 4096, 0, program, procs...)
		seen := map[int64]int{}
		for _, x := range o.Ended[1:] {
			last := int64(1 << 20)
			for w := x.Word; w != null(); {
				cell, _ := words.Cell(w)
				_, n, _ := words.Of(o.Heap[cell].A)
				if n >= last {
					t.Fatal("a thread's own sums do not rise")
				}
				last = n
				seen[n]++
				w = o.Heap[cell].B
			}
		}
		for n := range int64(7 * times) {
			if seen[n+1] != 1 {
				t.Fatalf("the sum %d came %d times", n+1, seen[n+1])
			}
		}
	}
}

// TestWhoDidIt: of many who exchange what stood there first, one is told that it did.
func TestWhoDidIt(t *testing.T) {
	program, procs := crewOf(t, 7, "(cas b 0 1)")
	is := api.Ended{Ended: true, Word: tagged(api.TagTrue, 0)}
	for range 500 {
		o := comes(t, 100, 0, program, procs...)
		did := 0
		for _, x := range o.Ended {
			if x == is {
				did++
			}
		}
		if did != 1 {
			t.Fatalf("%d did it: %v", did, o.Ended)
		}
	}
}

// TestNothingIsTorn: a pair's two halves, laid under a lock, are seen under it as they were laid, whoever is cut off in the midst.
func TestNothingIsTorn(t *testing.T) {
	program, procs := crewOf(t, 7, loop(40, "(lock 0) (set-car! p (+ (car p) 1)) (if (eq? (car p) (+ 1 (cdr p))) (set-cdr! p (car p)) (error 1)) (unlock 0)"))
	onProcessors(func() {
		for range 15 {
			for i, x := range comes(t, 4096, 1, program, procs...).Ended {
				if x.Err != api.OK {
					t.Fatal(i, x)
				}
			}
		}
	})
}
