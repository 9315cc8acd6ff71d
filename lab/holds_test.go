package lab_test

import (
	"fmt"
	"math/rand"
	"slices"
	"strconv"
	"strings"
	"testing"

	"dapple/lab"
)

// drawnWell is a drawn script without wrong lines, by pieces.
func drawnWell(seed int64) []string {
	d := &drawer{Rand: rand.New(rand.NewSource(seed))}
	return d.script()
}

// TestPrefix: what stands behind a line changes nothing of what is told up to it.
func TestPrefix(t *testing.T) {
	t.Parallel()
	for seed := range int64(60) {
		l := drawnWell(seed)
		whole := told(t, strings.Join(l, "\n"))
		at := 0
		for n := range len(l) + 1 {
			part := told(t, lines(l[:n]...))
			if !strings.HasPrefix(whole, part) || len(part) < at {
				t.Fatalf("%d of %d pieces: %s", n, len(l), differ(part, whole))
			}
			at = len(part)
			// Also where it is something else that stands behind.
			other := told(t, lines(append(l[:n:n], drawnWell(seed+1000)...)...))
			if !strings.HasPrefix(other, part) {
				t.Fatalf("%d of %d pieces, then others: %s", n, len(l), differ(part, other))
			}
			refuses(t, lines(l[:n]...)+"fly\n"+lines(l[n:]...), strings.Count(lines(l[:n]...), "\n")+1)
		}
		if at != len(whole) {
			t.Fatal(at, len(whole))
		}
	}
}

// TestSilentLines: lines that say nothing, put between any two commands, change nothing but lines' numbers.
func TestSilentLines(t *testing.T) {
	t.Parallel()
	for seed := range int64(400) {
		l := drawnWell(seed)
		d := &drawer{Rand: rand.New(rand.NewSource(seed))}
		var more []string
		count := 0
		for _, s := range append(l, "fly") {
			for range d.Intn(4) {
				more = append(more, d.silent())
				count++
			}
			more = append(more, s)
		}
		if s := differ(told(t, lines(more[:len(more)-1]...)), told(t, lines(l...))); s != "" {
			t.Fatalf("%q: %s", more, s)
		}
		refuses(t, lines(l...)+"fly", strings.Count(lines(l...), "\n")+1)
		refuses(t, lines(more...), strings.Count(lines(l...), "\n")+1+count)
	}
}

// TestApart: two scripts know nothing of one another, wherever the other one stands.
func TestApart(t *testing.T) {
	t.Parallel()
	for seed := range int64(200) {
		a, b := lines(drawnWell(seed)...), lines(drawnWell(seed+5000)...)
		first := told(t, a)
		told(t, b)
		lab.Run(a + "fly")
		lab.Run(b + "source\n")
		if s := differ(told(t, a), first); s != "" {
			t.Fatal(s)
		}
	}
	told(t, source("'(a b c) (define x 1)")+"world 4 0\nstart 0\nsettle 1")
	tells(t, "names\ncode\nworld 4 0\nheap", "names 0", "none", "none", "none")
	tells(t, source("'z")+"names", "source 1 0", "names 1", "z")
}

// reversing is a program of two threads that comes to the same, whoever is picked.
const reversing = "(define r (lambda (l a) (if (null? l) a (r (cdr l) (cons (car l) a))))) (define u (spawn (lambda () (r (r '(1 2 3 4) '()) '(0))))) (define v (r '(a b c) '())) (cons (join u) v)"

// drawnPicks are so many picks, with cycles begun among them as often as that.
func drawnPicks(r *rand.Rand, count, often int) []string {
	var l []string
	for range count {
		if often > 0 && r.Intn(often) == 0 {
			l = append(l, "collect")
		}
		l = append(l, fmt.Sprint("pick ", r.Intn(100)))
	}
	return l
}

// TestCollectorIsNotSeen (T1; the document's example 5): whatever is picked, and however often cycles are begun, on few cells as on
// many, what the program answers is the same.
func TestCollectorIsNotSeen(t *testing.T) {
	t.Parallel()
	const want = "= ((1 2 3 4 0) c b a)"
	then(t, begun(reversing, 400, 0), []string{"settle 9999", "ended 1"}, "settled 212", want)
	for seed := range int64(150) {
		r := rand.New(rand.NewSource(seed))
		cells := []int{30, 34, 40, 60, 100}[r.Intn(5)]
		l := drawnPicks(r, 900, []int{1, 5, 30, 200}[r.Intn(4)])
		for range 60 {
			l = append(l, "settle 40", "collect")
		}
		got := behind(t, begun(reversing, cells, 0), append(l, "settle 9999", "ended 1")...)
		if end := got[len(got)-1]; end != want {
			t.Fatalf("seed %d, %d cells: %s", seed, cells, end)
		}
	}
}

// numbersOf are those that stand in a line behind its first words.
func numbersOf(line string, words int) []int {
	var out []int
	for _, s := range strings.Fields(line)[words:] {
		n, _ := strconv.Atoi(s)
		out = append(out, n)
	}
	return out
}

// sight is what is told of a world between two steps.
type sight struct {
	step    []string // the words of the step ahead
	full    []int    // cells that are not free
	live    []int
	free    []int
	waiting []string
	holds   string
	par     string
}

// sights are those of a world behind each of these commands.
func sights(t *testing.T, ahead string, l []string) []sight {
	t.Helper()
	var all []string
	for _, s := range l {
		all = append(all, s, "live", "free", "waiting", "holds", "par 4", "heap")
	}
	got := behind(t, ahead, all...)
	var out []sight
	for len(got) > 0 {
		s := sight{step: strings.Fields(got[0]), live: numbersOf(got[1], 1), free: numbersOf(got[2], 1), waiting: strings.Fields(got[3])[1:], holds: got[4], par: got[5]}
		count := numbersOf(got[6], 1)[0]
		for _, cell := range got[7 : 7+count] {
			s.full = append(s.full, numbersOf(cell, 0)[0])
		}
		out, got = append(out, s), got[7+count:]
	}
	return out
}

// collected are programs that take cells, and let go of some.
func collected() []string {
	return []string{
		reversing,
		"(define w (lambda () (let ((p (cons 1 '()))) (while #t (set-car! p (cons p (box p))))))) (spawn w) (spawn w) (w)",
		"(define x (cons 1 2)) (define y x) (while #t (set-cdr! y (cons 'q y)) (set! x (cons y (box x))) (yield))",
		"(define b (box '())) (define push (lambda (x) (let ((old (unbox b))) (if (cas b old (cons x old)) 0 (push x))))) (define w (lambda () (while #t (push 1) (set-box! b '())))) (spawn w) (spawn w) (w)",
		"(define l '()) (define w (lambda () (while #t (set! l (cons 1 '()))))) (spawn w) (spawn w) (spawn w) (spawn w) (spawn w) (w)",
	}
}

// eachSights does something with drawn rows of steps, and what is seen behind each.
func eachSights(t *testing.T, do func(cells, globals int, l []sight)) {
	for seed := range int64(70) {
		r := rand.New(rand.NewSource(seed))
		text := collected()[r.Intn(len(collected()))]
		cells := 6 + r.Intn(40)
		ahead := begun(text, cells, 0)
		l := drawnPicks(r, 400, 1+r.Intn(20))
		do(cells, strings.Count(strings.Join(behind(t, ahead, "globals"), ""), " "), sights(t, ahead, l))
	}
}

// isCollectors tells whether a sight stands behind a step of the collector of that kind.
func (s sight) isCollectors(what string) bool {
	return len(s.step) > 1 && s.step[0] == "0" && s.step[1] == what
}

// TestNothingLiveIsLost (T2): at no moment is a live cell free, or the rule of the barrier broken; nobody looks into a free cell.
func TestNothingLiveIsLost(t *testing.T) {
	t.Parallel()
	eachSights(t, func(_, _ int, l []sight) {
		for i, s := range l {
			if s.holds != "y" || slices.ContainsFunc(s.live, func(c int) bool { return !slices.Contains(s.full, c) }) {
				t.Fatalf("step %d: %+v", i, s)
			}
			if what := s.step; i > 0 && len(what) > 3 && what[0] != "0" && len(what[1]) == 1 && what[1] <= "4" {
				if cell := numbersOf(what[2], 0)[0]; !slices.Contains(l[i-1].full, cell) {
					t.Fatalf("step %d looks into the free cell %d", i, cell)
				}
			}
		}
	})
}

// TestNothingDeadStays (T3), and a cycle ends (T4): what is neither live nor free when it begins is given back by its end, in no more
// steps of the collector than there may be.
func TestNothingDeadStays(t *testing.T) {
	t.Parallel()
	cycles := 0
	eachSights(t, func(cells, globals int, l []sight) {
		var dead []int
		steps := 0
		for i, s := range l {
			if s.isCollectors("18") {
				dead, steps = nil, 0
				for _, c := range l[i-1].full {
					if !slices.Contains(l[i-1].live, c) {
						dead = append(dead, c)
					}
				}
			}
			if len(s.step) > 1 && s.step[0] == "0" {
				steps++
			}
			if s.isCollectors("24") && s.step[7] == "y" {
				c := numbersOf(s.step[2], 0)[0]
				dead = slices.DeleteFunc(dead, func(d int) bool { return d == c })
			}
			if s.isCollectors("25") {
				cycles++
				if len(dead) > 0 || steps > 2*cells+globals+11 {
					t.Fatalf("step %d: %v stay, %d steps", i, dead, steps)
				}
			}
		}
	})
	if cycles < 60 {
		t.Error(cycles, "cycles ended")
	}
}

// TestInOrder (T5): what is given back goes to who waits longest; otherwise it is free.
func TestInOrder(t *testing.T) {
	t.Parallel()
	given := 0
	eachSights(t, func(_, _ int, l []sight) {
		for i, s := range l {
			if !s.isCollectors("24") || s.step[7] != "y" {
				continue
			}
			cell, to := numbersOf(s.step[2], 0)[0], s.step[6]
			longest := "0"
			if was := l[i-1].waiting; len(was) > 0 {
				longest, _, _ = strings.Cut(was[0], ":")
				given++
			}
			if to != longest || slices.Contains(s.free, cell) != (to == "0") {
				t.Fatalf("step %d: %v, waiting %v, free %v", i, s.step, l[i-1].waiting, s.free)
			}
		}
	})
	if given < 20 {
		t.Error(given, "cells were given")
	}
}

// TestManyMarkAsOne (T7): par tells of how many cells are live, and which ones are not, however many workers there are.
func TestManyMarkAsOne(t *testing.T) {
	t.Parallel()
	eachSights(t, func(_, _ int, l []sight) {
		for i, s := range l {
			dead := slices.DeleteFunc(slices.Clone(s.full), func(c int) bool { return slices.Contains(s.live, c) })
			want := fmt.Sprint("par ", len(s.live), " ", len(s.live), " ", len(dead))
			for _, c := range dead {
				want += fmt.Sprint(" ", c)
			}
			if s.par != want {
				t.Fatalf("step %d: %q, not %q", i, s.par, want)
			}
		}
	})
	for seed := range int64(20) {
		r := rand.New(rand.NewSource(seed))
		ahead := begun(collected()[r.Intn(5)], 6+r.Intn(40), 0) + lines(drawnPicks(r, 300, 40)...)
		var l []string
		for n := range 16 {
			l = append(l, fmt.Sprint("par ", n+1))
		}
		if got := behind(t, ahead, l...); len(slices.Compact(got)) != 1 {
			t.Fatal(got)
		}
	}
}

// TestBatonAsWorld (T6): a baton tells what a world comes to that has one thread at first, and is picked the same.
func TestBatonAsWorld(t *testing.T) {
	t.Parallel()
	for seed := range int64(150) {
		r := rand.New(rand.NewSource(seed))
		text := append(collected(), programs()...)[r.Intn(17)]
		var numbers, picks []string
		for range r.Intn(120) {
			n := fmt.Sprint(r.Intn(1 << r.Intn(17)))
			if n == "65536" {
				n = "65535"
			}
			numbers, picks = append(numbers, n), append(picks, "pick "+n)
		}
		head := fmt.Sprintf("%d %d", 4+r.Intn(60), r.Intn(9))
		got := behind(t, source(text), append([]string{strings.Join(append([]string{"baton", head}, numbers...), " "), "world " + head, "start 0"}, append(picks, "phase", "ended 1")...)...)
		phase, end := got[len(got)-2], got[len(got)-1]
		threads := 1
		for _, s := range got[3 : len(got)-2] {
			if f := strings.Fields(s); len(f) > 8 && f[1] == "9" && f[8] == "0" {
				threads++
			}
		}
		if want := fmt.Sprintf("baton %s %d %s", strings.Fields(phase)[3], threads+1, end); got[0] != want {
			t.Fatalf("seed %d: %q, not %q", seed, got[0], want)
		}
	}
}

// TestThereAndBack (T9): what data tells is the same data; what is shown of a quoted list is that list.
func TestThereAndBack(t *testing.T) {
	t.Parallel()
	for seed := range int64(300) {
		d := &drawer{Rand: rand.New(rand.NewSource(seed))}
		one, two := d.datum(3), d.datum(4)
		first := told(t, "data "+one+" "+two)
		if s := told(t, strings.TrimSuffix(first, "\n")); s != first {
			t.Fatalf("%q, then %q", first, s)
		}
		read := strings.TrimPrefix(strings.TrimSuffix(told(t, "data "+one), "\n"), "data ")
		got := behind(t, begun("'"+one, 200, 0), "settle 999", "ended 1")
		if back := told(t, "data "+strings.TrimPrefix(got[1], "= ")); back != "data "+read+"\n" {
			t.Fatalf("%s is shown as %q, which is %q", one, got[1], back)
		}
	}
}

// datum draws one, with so many lists within one another.
func (d *drawer) datum(deep int) string {
	if deep == 0 || d.Intn(3) == 0 {
		return d.one("a", "b", "cons", "-7", "0", "#t", "#f", "()", "if")
	}
	var l []string
	for range 1 + d.Intn(3) {
		l = append(l, d.datum(deep-1))
	}
	if d.Intn(4) == 0 {
		return "(" + strings.Join(l, d.gap()) + " . " + d.datum(deep-1) + ")"
	}
	return d.one("(", "'(", "( ") + strings.Join(l, d.gap()) + ")"
}

// TestDocumentExamples: 2 to 4 of the document's own (1 and 5 are above).
func TestDocumentExamples(t *testing.T) {
	// A thread has the only reference to a white cell, lays it into the black pair, and drops it: the cell is grey behind that.
	ahead := begun("(define h (cons 0 0)) (let ((x (cons 1 2))) (yield) (set-car! h x) (set! x 0) (while #t (yield)))", 9, 0)
	then(t, ahead, []string{"settle 7", "heap", "collect", "pick 0", "pick 0", "pick 0", "pick 0", "holds"},
		"settled 7", "heap 4", "0 1 0 i0 i0", "1 3 0 i1 nil", "2 1 0 i1 i2", "3 1 0 @2 nil", "ok", "0 18 0 0 ? ? 1 n 0", "0 19 0 0 ? ? 0 n 0 0", "0 20 0 0 ? ? 1 n 0", "1 16 0 0 ? ? 0 n 0 3", "y")
	then(t, begun("(define c (cons 1 2)) (set-cdr! c c) c", 4, 0), []string{"settle 99", "ended 1", "show 0"}, "settled 7", "= #0=(1 . #0#)", "= #0=(1 . #0#)")
	then(t, source("(car (cons 1 2))")+"world 4 0\n"+strings.Repeat("start 0\n", 5), []string{"pick 0", "pick 1", "pick 2", "pick 3", "pick 4", "waiting", "settle 99", "collect", "settle 99", "waiting", "ended 5"},
		"1 5 0 0 i1 i2 0 n 0", "2 5 1 0 i1 i2 0 n 0", "3 5 2 0 i1 i2 0 n 0", "4 5 3 0 i1 i2 0 n 0", "5 6 0 0 ? ? 0 n 0", "waiting 5:0",
		"settled 8", "ok", "settled 15", "waiting", "= 1")
}
