package free_test

import (
	"fmt"
	"os"
	"runtime"
	"slices"
	"strings"
	"sync"
	"sync/atomic"
	"testing"
	"time"

	"dapple/api"
	"dapple/free"
	"dapple/show"
)

// TestMain sees that no goroutine of a run is left when all tests have ended.
func TestMain(m *testing.M) {
	code := m.Run()
	if !soon(func() bool { return len(routines()) == 0 }) {
		fmt.Println("goroutines are left:", routines())
		code = 1
	}
	os.Exit(code)
}

// routines are the stacks of the goroutines that runs have begun.
func routines() []string {
	text := make([]byte, 1<<16)
	n := runtime.Stack(text, true)
	for ; n == len(text); n = runtime.Stack(text, true) {
		text = make([]byte, 2*len(text))
	}
	return slices.DeleteFunc(strings.Split(string(text[:n]), "\n\n"), func(s string) bool { return !strings.Contains(s, "created by dapple/free.") })
}

// soon tells whether something holds, now or in a while: a goroutine that has told of its end is counted a moment longer.
func soon(holds func() bool) bool {
	for range 5000 {
		if holds() {
			return true
		}
		time.Sleep(time.Millisecond)
	}
	return false
}

// TestNoGoroutineIsLeft: behind whatever a run comes to; none is at its work any more.
func TestNoGoroutineIsLeft(t *testing.T) {
	for _, row := range []struct {
		source string
		want   api.Errno
	}{
		{busy, api.OK},
		{"(spawn (lambda () " + loop(300, "(yield)") + ")) 5", api.OK},
		{"(error 1)", api.OK},
		{"(while #t (cons 1 2))", api.OK},
		{"(lock 0) (join (spawn (lambda () (lock 0))))", api.ErrFreeStuck},
		{"(define t (spawn (lambda () (lock 0) (join (spawn (lambda () (lock 0))))))) (join t)", api.ErrFreeStuck},
		{"(define w (lambda () (while #t (yield)))) (spawn w) (spawn w) (w)", api.ErrFreeMuch},
		{"(lock 0) (define w (lambda () (lock 0))) (spawn w) (spawn w) (define t (spawn w)) (spawn (lambda () (join t))) (while #t (yield))", api.ErrFreeMuch},
	} {
		c := compiled(t, row.source)
		for range 20 {
			if _, e := free.Run(api.Config{Cells: 200, Locks: 1}, c, 0); e != row.want {
				t.Fatal(row.source, e)
			}
			if s := routines(); slices.ContainsFunc(s, func(s string) bool { return strings.Contains(s, ".goSteps(") }) {
				t.Fatal("a thread goes on behind the call:", s)
			}
		}
		if !soon(func() bool { return len(routines()) == 0 }) {
			t.Fatal("goroutines are left:", routines())
		}
	}
	for _, want := range []api.Errno{api.ErrArg, api.ErrCodeForm} {
		c := api.Code{}
		if want == api.ErrArg {
			c = parsed(t, consing)
		}
		fails(t, want, api.Config{Cells: 4}, c, 0, 1)
		if n := len(routines()); n != 0 {
			t.Error(n)
		}
	}
}

// TestEachByItsOwn: as long as a run goes on, there is a goroutine for each thread that has not ended: of procs, and spawned ones.
func TestEachByItsOwn(t *testing.T) {
	for _, row := range []struct {
		source string
		procs  []int
		most   int
	}{
		{"(while #t 0)", []int{0}, 1},
		{"(while #t 0)", []int{0, 0, 0, 0, 0, 0, 0, 0}, 8},
		{"(define w (lambda () (while #t 0))) (spawn w) (spawn w) (w)", []int{0}, 3},
		{"(define w (lambda () (while #t 0))) (spawn w) (spawn w) 5", []int{0}, 2},
		{"(define t (spawn (lambda () (while #t 0)))) (spawn (lambda () (join t))) (join t)", []int{0}, 3},
	} {
		c := compiled(t, row.source)
		var over atomic.Bool
		ended := make(chan bool)
		go func() {
			defer close(ended)
			for !over.Load() {
				free.Run(api.Config{Cells: 20}, c, row.procs...)
			}
		}()
		met := 0
		for range 20000 {
			if n := len(routines()); n == row.most {
				if met++; met == 3 {
					break
				}
			} else if n > max(row.most, len(row.procs)) {
				// Those of a run that has told its end are counted a moment longer.
				time.Sleep(time.Millisecond)
			}
		}
		over.Store(true)
		<-ended
		if met < 3 {
			t.Errorf("%s: %d goroutines were not met", row.source, row.most)
		}
		if !soon(func() bool { return len(routines()) == 0 }) {
			t.Fatal("goroutines are left:", routines())
		}
	}
}

// TestRunsBeside one another: each comes to what it comes to alone. Some of them have one code.
func TestRunsBeside(t *testing.T) {
	t.Parallel()
	sum := func(n int) string {
		return fmt.Sprintf("(define b (box 0)) (define w (lambda () %s)) (define x (spawn w)) (define y (spawn w)) (w) (join x) (join y) (unbox b)", loop(10, fmt.Sprintf("(add b %d)", n)))
	}
	rows := []struct {
		source string
		cells  int
		want   string
	}{
		{"(car (cons 5 '()))", 4, "0 5"},
		{sum(1), 60, "0 30"}, {sum(2), 60, "0 60"}, {sum(-7), 60, "0 -210"},
		{"(define x 1) (define w (lambda () (lock 0) (set! x (* 2 x)) (unlock 0))) (define t (spawn w)) (define u (spawn w)) (w) (join t) (join u) x", 40, "0 8"},
		{"(while #t (cons 1 2))", 300, "error 121"},
		{"(lock 0) (join (spawn (lambda () (lock 0))))", 20, "stuck"},
		{"(define w (lambda () (while #t 0 (yield)))) (spawn w) (w)", 20, "much"},
		{busy, 100, "0 ((1 1 1 1 1 1 1 1 1 1 1 1 1 1 1) . s0)"},
	}
	var all sync.WaitGroup
	var wrong [72]string
	codes := make([]api.Code, len(rows))
	for i, row := range rows {
		codes[i] = compiled(t, row.source)
	}
	for i := range wrong {
		all.Add(1)
		go func() {
			defer all.Done()
			row := rows[i%len(rows)]
			for range 10 {
				if got := cameTo(row.cells, codes[i%len(rows)]); got != row.want {
					wrong[i] = fmt.Sprintf("%s: %s, not %s", row.source, got, row.want)
				}
			}
		}()
	}
	all.Wait()
	for _, s := range wrong {
		if s != "" {
			t.Error(s)
		}
	}
}

// cameTo is what a run's first thread comes to, or the run itself.
func cameTo(cells int, c api.Code) string {
	o, e := free.Run(api.Config{Cells: cells, Locks: 1}, c, 0)
	switch {
	case e == api.ErrFreeStuck:
		return "stuck"
	case e == api.ErrFreeMuch:
		return "much"
	case e != api.OK:
		return e.Error()
	case o.Ended[0].Err != api.OK:
		return o.Ended[0].Err.Error()
	}
	s, _ := show.Show(o.Heap, symbols(), o.Ended[0].Word)
	return "0 " + s
}

// TestRunsKnowNothingOfOneAnother: nothing of a run is left to the next one, whatever that came to.
func TestRunsKnowNothingOfOneAnother(t *testing.T) {
	c := compiled(t, "(define b (box 0)) (define i 0) (lock 0) (add b 1) (spawn (lambda () (lock 0))) (set! i (+ i 1)) (unbox b)")
	want := look(t, comes(t, 10, 1, c, 0))
	between := []string{"(lock 0) (join (spawn (lambda () (lock 0))))", "(while #t (yield))", "(while #t (cons 1 2))", "(lock 0) (error 1)", busy}
	for i := range 25 {
		free.Run(api.Config{Cells: 10, Locks: 1}, compiled(t, between[i%len(between)]), 0, 0)
		if got := look(t, comes(t, 10, 1, c, 0)); got != want {
			t.Fatalf("%s, not %s", got, want)
		}
	}
}
