package vm_test

import (
	"math/rand"
	"slices"
	"sync"
	"testing"

	"dapple/api"
	"dapple/vm"
	"dapple/words"
)

// spoil writes over a list, and over the room behind it.
func spoil[T any](l []T, with T) {
	for i := range l {
		l[i] = with
	}
	for i := len(l); i < cap(l); i++ {
		l[:cap(l)][i] = with
	}
}

// TestRootsAreNewMemory: what is done to a list that came out changes neither the thread nor another list.
func TestRootsAreNewMemory(t *testing.T) {
	d, h := desk{t}, roomy()
	h.most = 1
	x := d.main(lay(number(1)), lay(number(2)), prim(api.PrimCons), lay(number(3)), prim(api.PrimCons), do(api.OpReturn))
	for _, want := range [][]api.Word{
		{nilWord()},
		{words.Ref(0), nilWord()},
		{words.Ref(0), number(3), nilWord(), words.Ref(0), number(3)},
		{words.Ref(1), nilWord()},
		{words.Ref(1)},
	} {
		kept := x.Roots()
		spoil(x.Roots(), 0)
		d.roots(x, want...)
		if !slices.Equal(kept, want) {
			t.Error(kept, want)
		}
		spoil(kept, 0)
		d.roots(x, want...)
		if len(want) == 5 {
			h.most = 2
		}
		x.Step(h)
		if len(want) == 5 {
			h.most = 1
		}
	}
	if got := x.Ended(); got.Word != words.Ref(1) {
		t.Error(got)
	}
}

// TestShadedIsNewMemory: a list that a heap tells is neither changed nor handed on, nor is what lies behind its length.
func TestShadedIsNewMemory(t *testing.T) {
	d := desk{t}
	for _, row := range []struct {
		l []api.Word
		i api.Instr
	}{
		{[]api.Word{pairRef(), number(1)}, prim(api.PrimSetCar)},
		{[]api.Word{boxRef(), number(1), number(1)}, prim(api.PrimCas)},
		{[]api.Word{number(1)}, prim(api.PrimBox)},
		{[]api.Word{number(1)}, do(api.OpSetGlobal, 0)},
		{[]api.Word{number(1)}, do(api.OpSetVar, 0)},
	} {
		told := []int{4, 5, 6, 70, 80}
		x := d.behind(row.l, row.i)
		got := x.Step(&shelf{fixed{w: number(1), yes: true, shaded: told[:3]}, refs()})
		if !slices.Equal(got.Shaded, []int{4, 5, 6}) {
			t.Error(got.Shaded)
		}
		spoil(got.Shaded, -1)
		if !slices.Equal(told, []int{4, 5, 6, 70, 80}) {
			t.Error("the heap's list is", told)
		}
		y := d.behind(row.l, row.i)
		got = y.Step(&shelf{fixed{w: number(1), yes: true, shaded: told[:3]}, refs()})
		spoil(told, 9)
		if !slices.Equal(got.Shaded, []int{4, 5, 6}) {
			t.Error("the event's list is", got.Shaded)
		}
	}
}

// TestThreadsByTurns: threads of one code know nothing of one another, whoever goes when.
func TestThreadsByTurns(t *testing.T) {
	for seed := range int64(200) {
		r := rand.New(rand.NewSource(seed))
		c := drawnCode(r, 1+r.Intn(4), 1+r.Intn(30))
		var threads []*vm.Thread
		var heaps, alone []vm.Accesses
		for range 4 {
			x, _ := vm.New(c, 0, words.Ref(0))
			one, other := sources(r.Int63(), len(c.Procs))
			threads, heaps, alone = append(threads, x), append(heaps, one), append(alone, other)
		}
		got := make([][]api.Event, 4)
		for range 300 {
			i := r.Intn(4)
			got[i] = append(got[i], threads[i].Step(heaps[i]))
		}
		for i, l := range got {
			x, _ := vm.New(c, 0, words.Ref(0))
			for _, want := range l {
				if e := x.Step(alone[i]); !same(e, want) {
					t.Fatalf("seed %d: %+v, not %+v", seed, want, e)
				}
			}
		}
	}
}

// TestThreadsBeside: threads that each go by a goroutine, of one code, come to what they come to.
func TestThreadsBeside(t *testing.T) {
	r := rand.New(rand.NewSource(1))
	c := drawnCode(r, 4, 30)
	run := func(seed int64) []api.Event {
		x, _ := vm.New(c, 0, words.Ref(0))
		h, _ := sources(seed, len(c.Procs))
		var l []api.Event
		for range 300 {
			l = append(l, x.Step(h))
		}
		return l
	}
	var wait sync.WaitGroup
	got := make([][]api.Event, 16)
	for i := range got {
		wait.Add(1)
		go func() {
			defer wait.Done()
			got[i] = run(int64(i))
		}()
	}
	wait.Wait()
	for i, l := range got {
		if !slices.EqualFunc(l, run(int64(i)), same) {
			t.Error(i)
		}
	}
}
