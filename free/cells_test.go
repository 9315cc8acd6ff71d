package free_test

import (
	"fmt"
	"slices"
	"strings"
	"testing"

	"dapple/api"
	"dapple/words"
)

// grabbing is code of threads that make pairs of their own number and nil for ever; procedure n makes them of n.
func grabbing(t *testing.T, threads int) api.Code {
	t.Helper()
	text := "const nil\n"
	for n := range threads {
		text += fmt.Sprintf("const int %d\n", n)
	}
	for n := range threads {
		text += fmt.Sprintf("proc 0\n const %d\n const 0\n prim 1\n pop\n jump 0\n", n+1)
	}
	return parsed(t, text)
}

// TestNoCells: a thread that asks for more than there are has each of them once, and ends by ErrNoCells with the step behind the one
// that asked.
func TestNoCells(t *testing.T) {
	c := grabbing(t, 1)
	for _, cells := range []int{4, 5, 100, 4095, 4096} {
		o := comes(t, cells, 0, c, 0)
		ends(t, o, fault(api.ErrNoCells))
		if !slices.Equal(o.Heap, slices.Repeat([]api.Cell{pair(number(0), null())}, cells)) || o.Steps != cells+2 {
			t.Errorf("%d cells, %d steps", used(o.Heap), o.Steps)
		}
	}
}

// TestJustEnoughCells: so many that nobody is refused, and one fewer.
func TestJustEnoughCells(t *testing.T) {
	c := parsed(t, "const nil\nproc 0\n const 0\n const 0\n prim 1\n return\n")
	for threads := 4; threads <= 8; threads++ {
		o := comes(t, threads, 0, c, make([]int, threads)...)
		if used(o.Heap) != threads || o.Steps != 2*threads {
			t.Errorf("%+v", o)
		}
		for _, x := range o.Ended {
			if x.Err != api.OK {
				t.Error(o.Ended)
			}
		}
		if threads == 4 {
			continue
		}
		o = comes(t, threads-1, 0, c, make([]int, threads)...)
		refused := 0
		for _, x := range o.Ended {
			if x == fault(api.ErrNoCells) {
				refused++
			}
		}
		if refused != 1 || used(o.Heap) != threads-1 || o.Steps != 2*threads {
			t.Errorf("%d refused, %d cells used, %d steps", refused, used(o.Heap), o.Steps)
		}
	}
}

// TestCellsOfMany: many at one time have all cells together, each of them one's, and all are refused then.
func TestCellsOfMany(t *testing.T) {
	const threads = 8
	c := grabbing(t, threads)
	procs := []int{0, 1, 2, 3, 4, 5, 6, 7}
	for _, cells := range []int{4, 7, 64, 4096} {
		onProcessors(func() {
			for range 30 {
				o := comes(t, cells, 0, c, procs...)
				ends(t, o, slices.Repeat([]api.Ended{fault(api.ErrNoCells)}, threads)...)
				if o.Steps != cells+2*threads {
					t.Fatalf("%d cells: %d steps", cells, o.Steps)
				}
				for _, x := range o.Heap {
					if _, n, _ := words.Of(x.A); x != pair(number(n), null()) || n >= threads {
						t.Fatal(x)
					}
				}
			}
		})
	}
}

// TestEachCellIsOnes: what each of many threads made is its own, and stays as that left it.
func TestEachCellIsOnes(t *testing.T) {
	var bodies []string
	for n := range 7 {
		bodies = append(bodies, fmt.Sprintf("(let ((l '()) (i 0)) (while (< i 40) (set! l (cons %d l)) (set! i (+ i 1))) l)", n))
	}
	c := compiled(t, crew(bodies...))
	for range 60 {
		o := comes(t, 4096, 0, c, crewProcs(c)...)
		for n, x := range o.Ended[1:] {
			want := "(" + strings.TrimSpace(strings.Repeat(fmt.Sprint(n, " "), 40)) + ")"
			if got := shown(t, o.Heap, x.Word); got != want {
				t.Fatalf("thread %d: %s", n+2, got)
			}
		}
	}
}

// TestKindsOfCells: what is filled is white, of its kind, with its words; all others are free.
func TestKindsOfCells(t *testing.T) {
	c := parsed(t, "const int 5\nconst nil\nproc 0\n const 0\n prim 6\n const 1\n prim 1\n pop\n closure 0\n return\n")
	o := comes(t, 5, 0, c, 0)
	want := []api.Cell{{Kind: api.KindBox, A: number(5), B: null()}, pair(words.Ref(0), null()), {Kind: api.KindClosure, A: number(0), B: null()}, {}, {}}
	if !slices.Equal(o.Heap, want) {
		t.Error(o.Heap)
	}
}

// TestWhoIsRefused: the thread that asked, wherever it asked; all others go on, and who joins it hears of that.
func TestWhoIsRefused(t *testing.T) {
	// What the first thread lays takes five cells; whoever wants none goes on.
	bodies := []string{"(lock 0) (cons 1 2)", "(lock 0) (set! x 7) 8", "(join 2)"}
	c := compiled(t, crew(bodies...))
	for range 200 {
		o := comes(t, 5, 1, c, crewProcs(c)...)
		ends(t, o, word(nothing()), fault(api.ErrNoCells), word(number(8)), fault(api.ErrNoCells))
		if o.Globals[0] != number(7) || used(o.Heap) != 5 {
			t.Fatal(o.Globals, used(o.Heap))
		}
	}
}

// TestRefusedAtEachAlloc: the cell for a pair, a box, a closure, an argument: one fewer than it takes, and just as many.
func TestRefusedAtEachAlloc(t *testing.T) {
	for s, takes := range map[string]int{"(cons 1 2)": 1, "(box 1)": 1, "(lambda () 1)": 1, "(spawn (lambda () 1))": 1, "((lambda (y) y) 1)": 2, "(let ((y 1) (z 2)) y)": 3, "'(1 2 3)": 3} {
		c := compiled(t, crew(s, "5"))
		procs := crewProcs(c)
		cells := crewCells(2) + takes
		if o := comes(t, cells, 0, c, procs...); o.Ended[1].Err != api.OK || used(o.Heap) != cells {
			t.Error(s, o.Ended, used(o.Heap))
		}
		if o := comes(t, cells-1, 0, c, procs...); o.Ended[1] != fault(api.ErrNoCells) || o.Ended[2] != word(number(5)) || used(o.Heap) != cells-1 {
			t.Error(s, o.Ended, used(o.Heap))
		}
	}
}
