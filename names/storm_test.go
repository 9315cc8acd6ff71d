package names_test

import (
	"math"
	"math/rand"
	"runtime"
	"slices"
	"strings"
	"testing"
	"time"

	"dapple/api"
	"dapple/names"
)

// someWorkers are numbers of goroutines, most of them such as stand for 1 or 16.
func someWorkers() []int {
	return []int{math.MinInt, -1, 0, 1, 2, 3, 7, 15, 16, 17, 99, math.MaxInt}
}

// storms lets a storm go over a table that has p; what it has then.
func storms(t *testing.T, table *names.Table, p plain, workers int, l []string) plain {
	t.Helper()
	p, numbers, errs := p.internAll(l)
	gotNumbers, gotErrs := table.Storm(workers, l...)
	if !slices.Equal(gotNumbers, numbers) || !slices.Equal(gotErrs, errs) {
		t.Fatalf("%d workers: %v, %v, not %v, %v", workers, gotNumbers, gotErrs, numbers, errs)
	}
	if !slices.Equal(table.All(), p) || table.Len() != len(p) {
		t.Fatalf("%d workers: %q, not %q", workers, table.All(), p)
	}
	return p
}

func TestStormOfTheExample(t *testing.T) {
	for _, workers := range someWorkers() {
		table := made(t, "x")
		numbers, errs := table.Storm(workers, "b", "a", "x", "b", " ")
		if !slices.Equal(numbers, []int{1, 2, 0, 1, 0}) || !slices.Equal(errs, []api.Errno{0, 0, 0, 0, api.ErrNamesForm}) {
			t.Errorf("%d workers: %v, %v", workers, numbers, errs)
		}
		plain{"x", "b", "a"}.same(t, table)
	}
}

func TestStormsOfFew(t *testing.T) {
	for _, l := range [][]string{nil, {}, {"x"}, {"y"}, {""}, {"y", "y"}, {"", "y", "a b", "x", strings.Repeat("x", 33), "y", "z"}} {
		for _, workers := range someWorkers() {
			table := made(t, "x")
			storms(t, table, plain{"x"}, workers, l).same(t, table)
		}
	}
}

// mixed are texts of all sorts, many alike, drawn by r.
func mixed(r *rand.Rand, n int) []string {
	bad, good := noNames(), unlike(n/2)
	l := make([]string, n)
	for i := range l {
		if r.Intn(10) == 0 {
			l[i] = bad[r.Intn(len(bad))]
		} else {
			l[i] = good[r.Intn(len(good))]
		}
	}
	return l
}

// TestStormsBySoManyOrSoMany: the same storm, by however many, again and again, is Intern one by one.
func TestStormsBySoManyOrSoMany(t *testing.T) {
	for seed := range int64(5) {
		l := mixed(rand.New(rand.NewSource(seed)), 600)
		first := plain(unlike(300)[100:200])
		for _, workers := range someWorkers() {
			for range 4 {
				one := made(t, first...)
				got := storms(t, one, first, workers, l)
				byOne := made(t, first...)
				for _, s := range l {
					byOne.Intern(s)
				}
				got.same(t, byOne)
				storms(t, one, got, workers, l)
			}
		}
	}
}

// TestStormsIntoAFullTable: what has no room is refused, each at its place, and what there is has its number.
func TestStormsIntoAFullTable(t *testing.T) {
	for _, n := range []int{4095, 4096, 4097} {
		l := unlike(n)
		for _, workers := range []int{1, 4, 16, 99} {
			table := made(t)
			numbers, errs := table.Storm(workers, append(l[:n:n], "n7", "", "x", "x", "n4095")...)
			for i := range n {
				if i < 4096 && (numbers[i] != i || errs[i] != api.OK) || i == 4096 && (numbers[i] != 0 || errs[i] != api.ErrNamesMuch) {
					t.Fatalf("%d names by %d, %d: %d, %d", n, workers, i, numbers[i], errs[i])
				}
			}
			wantNumbers, wantErrs := []int{7, 0, 0, 0, 4095}, []api.Errno{0, api.ErrNamesForm, api.ErrNamesMuch, api.ErrNamesMuch, 0}
			if n == 4095 {
				// There is room for x, and none for n4095 then.
				wantNumbers, wantErrs = []int{7, 0, 4095, 4095, 0}, []api.Errno{0, api.ErrNamesForm, 0, 0, api.ErrNamesMuch}
			}
			if !slices.Equal(numbers[n:], wantNumbers) || !slices.Equal(errs[n:], wantErrs) {
				t.Errorf("%d names by %d: %v, %v", n, workers, numbers[n:], errs[n:])
			}
			if table.Len() != 4096 {
				t.Errorf("%d names by %d: Len %d", n, workers, table.Len())
			}
			if n > 4095 {
				isFull(t, table)
			}
		}
	}
}

// TestStormsThatFillUp: one room is left, and some ask for it: it is the first one's of the list.
func TestStormsThatFillUp(t *testing.T) {
	first := unlike(4095)
	for _, workers := range someWorkers() {
		table := made(t, first...)
		p := storms(t, table, first, workers, []string{"n1", "", "b", "a", "b", "n1", "c"})
		storms(t, table, p, workers, []string{"a", "b", "n4094", "b ", "c"})
	}
}

// TestStormsShareNothing: R2, R6 and R10.
func TestStormsShareNothing(t *testing.T) {
	l := []string{"b", "a", "x", "b", " ", "behind"}
	table := made(t, "x")
	numbers, errs := table.Storm(3, l[:5]...)
	again, errsAgain := table.Storm(3, l[:5]...)
	if !slices.Equal(l, []string{"b", "a", "x", "b", " ", "behind"}) {
		t.Error(l)
	}
	clear(l)
	numbers, errs = numbers[:cap(numbers)], errs[:cap(errs)]
	for i := range numbers {
		numbers[i] = 99
	}
	for i := range errs {
		errs[i] = 99
	}
	if !slices.Equal(again, []int{1, 2, 0, 1, 0}) || !slices.Equal(errsAgain, []api.Errno{0, 0, 0, 0, api.ErrNamesForm}) {
		t.Error(again, errsAgain)
	}
	plain{"x", "b", "a"}.same(t, table)
}

// TestStormsLeaveNoGoroutines is R5.
func TestStormsLeaveNoGoroutines(t *testing.T) {
	before := runtime.NumGoroutine()
	for range 50 {
		made(t).Storm(16, unlike(100)...)
	}
	// A goroutine that has told that it is done may not have ended quite.
	for range 1000 {
		if runtime.NumGoroutine() <= before {
			return
		}
		time.Sleep(time.Millisecond)
	}
	t.Errorf("there were %d goroutines, there are %d", before, runtime.NumGoroutine())
}
