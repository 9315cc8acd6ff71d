package lab_test

import (
	"fmt"
	"math/rand"
	"strings"
	"testing"

	"dapple/lab"
)

// programs are sources of which worlds are made: such as end, go on for ever, wait, fail, and are refused.
func programs() []string {
	return []string{
		"(car (cons 5 '()))",
		"(define c (cons 1 2)) (set-cdr! c c) c",
		"(define r (lambda (l a) (if (null? l) a (r (cdr l) (cons (car l) a)))))\n(define u (spawn (lambda () (r '(a b c d) '()))))\n(define v (r '(1 2 3) '()))\n(cons (join u) v)",
		"(define l '()) (while #t (set! l (cons 'x l)))",
		"(define b (box 0)) (define run (lambda (n) (while (< 0 n) (lock 0) (set-box! b (+ 1 (unbox b))) (unlock 0) (set! n (- n 1)))))\n(define u (spawn (lambda () (run 5)))) (run 5) (join u) (unbox b)",
		"(define b (box '())) (define push (lambda (x) (let ((old (unbox b))) (if (cas b old (cons x old)) 0 (push x)))))\n(define u (spawn (lambda () (push 1) (push 2)))) (push 3) (join u) (unbox b)",
		"(define w (lambda () (let ((p (cons 1 '()))) (while #t (set-car! p (cons p (box p)))))))\n(spawn w) (spawn w) (w)",
		"(define w (lambda () (cons 1 2))) (spawn w) (spawn w) (spawn w) (spawn w) (spawn w) (spawn w) (cons (spawn w) (spawn w))",
		"(spawn (lambda () (error 7))) (join 2)",
		"(lock 0) (spawn (lambda () (lock 0))) (join 2)",
		"(define x (cons 1 2)) (define y x) (set! x 0) (while #t (set-cdr! y (cons 'q y)) (yield))",
		"'(a (b . c) #t #f () -5)",
		"(lambda (x) x) car",
		"(car 5)", "(1 2)", "z", "(if", "(if)", "(define x 1) (set! car x)", "(join 1)", "", "; nothing", "(yield) #f",
	}
}

// drawer draws scripts.
type drawer struct {
	*rand.Rand
	wrong int // how seldom a line is wrong; 0: never
}

// one is one of these.
func (d *drawer) one(l ...string) string { return l[d.Intn(len(l))] }

// gap stands between words.
func (d *drawer) gap() string { return d.one(" ", " ", " ", " ", "\t", "  ", " \t ") }

// end stands at a line's ends.
func (d *drawer) end() string { return d.one("", "", "", "", "", " ", "\t", " \t") }

// number is mostly small.
func (d *drawer) number() string {
	switch d.Intn(10) {
	case 0:
		return fmt.Sprint(d.Intn(65536))
	case 1, 2:
		return fmt.Sprint(d.Intn(100))
	}
	return fmt.Sprint(d.Intn(5))
}

// numbers are so many.
func (d *drawer) numbers(count int) string {
	s := ""
	for range count {
		s += d.gap() + d.number()
	}
	return s
}

// silent is a line that says nothing.
func (d *drawer) silent() string {
	return d.end() + d.one("", "", "#", "# fly", "#names", "# \x80 ( .")
}

// anyLine is a line that is wrong, mostly.
func (d *drawer) anyLine() string {
	if d.Intn(2) == 0 {
		return d.one("fly", ".", "pick", "pick 01", "world 4", "names 1", "source 1", "start -1", "heap\r", "baton 4", "settle 65536", "ended x", "Names")
	}
	var b strings.Builder
	for range 1 + d.Intn(12) {
		b.WriteString(d.one(" ", "\t", "0", "1", "65535", "names", "pick", "data", "#", ".", "(", "heap", "\r", "\x00", "source", "world", "a"))
	}
	return b.String()
}

// line is a line, or a source's lines.
func (d *drawer) line() string {
	if d.wrong > 0 && d.Intn(d.wrong) == 0 {
		return d.anyLine()
	}
	return d.end() + d.command()
}

// command is a command, and what stands behind it.
func (d *drawer) command() string {
	switch d.Intn(24) {
	case 0:
		return "source" + d.end() + "\n" + d.one(programs()...) + "\n."
	case 1:
		return "data" + d.one("", d.gap(), d.gap()+d.one("a", "(a . (b c))", "(", "1 2 '3", "\"", "(a . b) ", "; c"))
	case 2:
		return "names" + d.end()
	case 3:
		return "code" + d.end()
	case 4:
		return "world" + d.gap() + d.one("4", "5", "8", "20", "60", d.number()) + d.gap() + d.one("0", "1", d.number()) + d.end()
	case 5:
		return "baton" + d.gap() + d.one("4", "9", "30", d.number()) + d.gap() + d.one("0", "1", d.number()) + d.numbers(d.Intn(60)) + d.end()
	case 6:
		return "start" + d.gap() + d.one("0", "0", "0", d.number()) + d.end()
	case 7, 8:
		return "collect" + d.end()
	case 9, 10:
		return "settle" + d.gap() + d.one("1", "5", "30", fmt.Sprint(d.Intn(300))) + d.end()
	case 11, 12, 13:
		return d.one("ended", "show", "par") + d.gap() + d.one("0", "1", "2", d.number()) + d.end()
	case 14, 15, 16, 17:
		return d.one("ready", "phase", "heap", "free", "waiting", "roots", "globals", "live", "holds") + d.end()
	}
	var l []string
	for range 1 + d.Intn(12) {
		l = append(l, "pick"+d.gap()+d.number()+d.end())
	}
	return strings.Join(l, "\n")
}

// begin are lines by which there is a world with a thread.
func (d *drawer) begin() []string {
	return []string{
		"source\n" + d.one(programs()...) + "\n.",
		"world " + d.one("4", "8", "16", "40", "100") + " " + d.one("0", "1", "8"),
		"start 0",
	}
}

// script is a drawn one, by the pieces into which it may be cut.
func (d *drawer) script() []string {
	var l []string
	if d.Intn(8) > 0 {
		l = d.begin()
	}
	for range d.Intn(80) {
		switch d.Intn(30) {
		case 0:
			l = append(l, d.begin()...)
		case 1:
			l = append(l, d.silent())
		default:
			l = append(l, d.line())
		}
	}
	return l
}

// drawn is one of a seed.
func drawn(seed int64) (*drawer, []string) {
	d := &drawer{Rand: rand.New(rand.NewSource(seed))}
	if d.Intn(4) == 0 {
		d.wrong = 40
	}
	return d, d.script()
}

// held sees that Run answers what it is to answer.
func held(t *testing.T, script string) {
	t.Helper()
	got, line, e := lab.Run(script)
	want, wantLine, wantE := plainRun(script)
	if d := differ(got, want); d != "" || line != wantLine || e != wantE {
		t.Fatalf("%s\n\nanswers %d, %d, not %d, %d; %s", script, line, e, wantLine, wantE, d)
	}
}

// TestDrawn: drawn scripts tell what the chapter says.
func TestDrawn(t *testing.T) {
	t.Parallel()
	wrong := 0
	for seed := range int64(2500) {
		_, l := drawn(seed)
		script := strings.Join(l, "\n")
		held(t, script)
		if _, _, e := lab.Run(script); e != 0 {
			wrong++
		}
	}
	if wrong < 100 || wrong > 1250 {
		t.Error(wrong, "of them are wrong")
	}
}

// TestDrawnBytes: scripts of words and bytes as they come.
func TestDrawnBytes(t *testing.T) {
	t.Parallel()
	d := &drawer{Rand: rand.New(rand.NewSource(26))}
	for range 20000 {
		var b strings.Builder
		for range 1 + d.Intn(6) {
			b.WriteString(d.one("", "names", "data", "source\n1\n.", "world 4 0", "pick 1", "#", "heap ", d.anyLine(), d.anyLine()) + d.one("", "\n", "\n", " \n", "\n\n"))
		}
		held(t, b.String())
	}
}
