package lab_test

import (
	"fmt"
	"math/rand"
	"os"
	"runtime"
	"slices"
	"strings"
	"sync"
	"testing"
	"time"

	"dapple/api"
	"dapple/lab"
)

// TestMain sees that no goroutine is left when all has been told.
func TestMain(m *testing.M) {
	code := m.Run()
	if !soon(func() bool { return len(routines()) == 0 }) {
		fmt.Println("goroutines are left:", routines())
		code = 1
	}
	os.Exit(code)
}

// routines are the stacks of goroutines that the program has begun.
func routines() []string {
	text := make([]byte, 1<<16)
	n := runtime.Stack(text, true)
	for ; n == len(text); n = runtime.Stack(text, true) {
		text = make([]byte, 2*len(text))
	}
	return slices.DeleteFunc(strings.Split(string(text[:n]), "\n\n"), func(s string) bool {
		return !strings.Contains(s, "created by dapple/") || strings.Contains(s, "created by dapple/lab_test.")
	})
}

// soon tells whether something holds, now or in a while: a goroutine that has told of its end is counted a moment longer.
func soon(holds func() bool) bool {
	for range 5000 {
		if holds() {
			return true
		}
		time.Sleep(time.Millisecond)
	}
	return false
}

// gone sees that all goroutines have ended: none is at its work, and in a moment none is counted.
func gone(t *testing.T) {
	t.Helper()
	if slices.ContainsFunc(routines(), func(s string) bool {
		return strings.Contains(s, "dapple/lab.Run(") || strings.Contains(s, "dapple/baton.act(")
	}) {
		t.Fatal("a goroutine goes on")
	}
	if !soon(func() bool { return len(routines()) == 0 }) {
		t.Fatal("goroutines are left:", routines())
	}
}

// alone is what Many is to answer of one script.
func alone(script string) string {
	s, line, e := lab.Run(script)
	if e != api.OK {
		return fmt.Sprintf("wrong %d %d\n", int(e), line)
	}
	return s
}

// tellsMany sees that Many answers what Run tells of each.
func tellsMany(t *testing.T, scripts ...string) {
	t.Helper()
	was := slices.Clone(scripts)
	got := lab.Many(scripts...)
	if len(got) != len(scripts) || !slices.Equal(scripts, was) {
		t.Fatal(len(got), "answers of", len(scripts))
	}
	for i, s := range scripts {
		if d := differ(got[i], alone(s)); d != "" {
			t.Fatalf("%d of %d: %q: %s", i, len(scripts), cut(s), d)
		}
	}
}

// TestManyOfNone, and of one.
func TestManyOfNone(t *testing.T) {
	if l := lab.Many(); len(l) != 0 {
		t.Error(l)
	}
	if l := lab.Many([]string{}...); len(l) != 0 {
		t.Error(l)
	}
	for _, s := range []string{"", "\n", "names", "fly", example2(), "source", strings.Repeat("#", 65536), strings.Repeat("#", 65537)} {
		tellsMany(t, s)
	}
	gone(t)
}

// TestManyTells: what Run tells; or 'wrong', the error's number and the line's, in the scripts' order.
func TestManyTells(t *testing.T) {
	long := strings.Repeat("\n", 65537)
	got := lab.Many("names", "fly", "", long, "names\n\npick 01", example2(), "source\n1", "#", "names\nnames", "fly")
	want := []string{"names 0\n", "wrong 260 1\n", "", "wrong 261 0\n", "wrong 260 3\n", lines(toldBy2()...), "wrong 260 1\n", "", "names 0\nnames 0\n", "wrong 260 1\n"}
	if !slices.Equal(got, want) {
		t.Errorf("%q", got)
	}
	gone(t)
}

// TestManyScripts: drawn ones, of all lengths, some of them the same, some wrong: as each alone, however often they are run.
func TestManyScripts(t *testing.T) {
	for seed := range int64(12) {
		r := rand.New(rand.NewSource(seed))
		var scripts []string
		for range r.Intn(60) {
			_, l := drawn(r.Int63n(50))
			scripts = append(scripts, strings.Join(l, "\n"))
		}
		scripts = append(scripts, scripts...)
		tellsMany(t, scripts...)
		first := lab.Many(scripts...)
		for range 5 {
			if !slices.Equal(lab.Many(scripts...), first) {
				t.Fatal("another answer")
			}
		}
	}
	gone(t)
}

// TestLongAndShort: scripts that take long, among such as take little: who has done first is not seen.
func TestLongAndShort(t *testing.T) {
	var scripts []string
	for i := range 60 {
		steps := 1
		if i%7 == 0 {
			steps = 60000 - i*500
		}
		scripts = append(scripts, begun("(while #t (yield))", 4, 0)+lines(fmt.Sprint("settle ", steps), "phase"))
	}
	tellsMany(t, scripts...)
	slices.Reverse(scripts)
	tellsMany(t, scripts...)
}

// TestManyShort: a thousand of them.
func TestManyShort(t *testing.T) {
	var scripts []string
	for i := range 3000 {
		scripts = append(scripts, []string{fmt.Sprint("data ", i), "", fmt.Sprint("\n\nfly ", i), fmt.Sprintf("source\n'x%d\n.\nnames", i)}[i%4])
	}
	tellsMany(t, scripts...)
	gone(t)
}

// TestBatonsOfMany: batons and workers of scripts beside one another; no goroutine is left behind them.
func TestBatonsOfMany(t *testing.T) {
	var scripts []string
	for i := range 40 {
		picks := strings.Repeat(fmt.Sprint(" ", i), 200)
		scripts = append(scripts, source(collected()[i%5])+lines("baton 30 1"+picks, "world 30 1", "start 0", "settle 300", fmt.Sprint("par ", 1+i%16), "baton 3 0", "baton 20 0"+picks))
	}
	for range 5 {
		tellsMany(t, scripts...)
		gone(t)
	}
}

// TestManyBesideOneAnother: Many and Run are asked by many at one time.
func TestManyBesideOneAnother(t *testing.T) {
	var scripts, want []string
	for seed := range int64(30) {
		_, l := drawn(seed)
		scripts = append(scripts, strings.Join(l, "\n"))
		want = append(want, alone(scripts[seed]))
	}
	var all sync.WaitGroup
	for i := range 12 {
		all.Add(1)
		go func() {
			defer all.Done()
			if i%2 == 0 {
				if !slices.Equal(lab.Many(scripts...), want) {
					t.Error("Many answers otherwise")
				}
				return
			}
			for k := range scripts {
				if alone(scripts[(k+i)%len(scripts)]) != want[(k+i)%len(scripts)] {
					t.Error("Run answers otherwise")
				}
			}
		}()
	}
	all.Wait()
	gone(t)
}

// TestBesideTheOthers: several scripts are done at one time, each by a goroutine of its own.
func TestBesideTheOthers(t *testing.T) {
	script := begun("(while #t (yield))", 4, 0) + strings.Repeat("settle 65535\n", 10)
	ended := make(chan bool)
	go func() {
		defer close(ended)
		lab.Many(script, script, script, script)
	}()
	most := 0
	for done := false; !done; {
		select {
		case <-ended:
			done = true
		default:
			at := 0
			for _, s := range routines() {
				if strings.Contains(s, "created by dapple/lab.Many ") && strings.Contains(s, "dapple/lab.Run(") {
					at++
				}
			}
			most = max(most, at)
		}
	}
	if most != 4 {
		t.Error(most, "at one time")
	}
	gone(t)
}

// TestRunLeavesNobody: batons that end, that go on for ever, and such as are refused, leave no goroutine.
func TestRunLeavesNobody(t *testing.T) {
	for _, text := range append(programs(), collected()...) {
		told(t, source(text)+lines("baton 4 0", "baton 3 0 1", "baton 20 1"+strings.Repeat(" 3", 100), "baton 4097 0", "baton 4 9", "world 8 1", "start 0", "settle 50", "par 16", "par 17"))
	}
	gone(t)
}
