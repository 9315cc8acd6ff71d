package free

import (
	"slices"
	"sync"
	"testing"

	"dapple/api"
	"dapple/vm"
)

// ending is code that ends at once.
func ending() api.Code {
	return api.Code{Consts: []api.Word{sole(api.TagNil)}, Globals: []string{"x"}, Procs: []api.Proc{{Code: []api.Instr{{Op: api.OpConst}, {Op: api.OpReturn}}}}}
}

// desked is a run with so many threads that have no goroutines: each call is made for them.
func desked(t *testing.T, threads, locks int) *run {
	t.Helper()
	r := newRun(api.Config{Cells: 100, Locks: locks}, ending())
	for range threads {
		machine, e := vm.New(r.program, 0, sole(api.TagNil))
		if e != api.OK {
			t.Fatal(e)
		}
		if _, e := r.enter(machine); e != api.OK {
			t.Fatal(e)
		}
	}
	return r
}

// rung are the threads whose bells have been rung.
func (r *run) rung() []int {
	var out []int
	for _, t := range r.threads {
		if t.bell == nil {
			continue
		}
		select {
		case <-t.bell:
			out = append(out, t.number)
		default:
		}
	}
	return out
}

// wakes sees whose bells have been rung, and whether the run is given up, and why.
func wakes(t *testing.T, r *run, why api.Errno, want ...int) {
	t.Helper()
	if got := r.rung(); !slices.Equal(got, want) || r.fault != why {
		t.Fatalf("rung %v, not %v; %d, not %d", got, want, r.fault, why)
	}
}

// takes takes a lock for a thread.
func takes(t *testing.T, r *run, thread, lock int, want bool) {
	t.Helper()
	if now, e := r.threads[thread-1].Lock(lock); now != want || e != api.OK {
		t.Fatalf("%d: %t, %d", thread, now, e)
	}
}

// TestInTheOrderOfAsking: a lock goes to who asked for it first, and to no other one.
func TestInTheOrderOfAsking(t *testing.T) {
	r := desked(t, 8, 1)
	takes(t, r, 3, 0, true)
	for _, n := range []int{5, 1, 8, 2} {
		takes(t, r, n, 0, false)
	}
	var woken []int
	for at, n := range []int{3, 5, 1, 8, 2} {
		wakes(t, r, api.OK, woken...)
		if e := r.threads[n-1].Unlock(0); e != api.OK {
			t.Fatal(n, e)
		}
		if at < 4 {
			woken = append(woken, []int{5, 1, 8, 2}[at])
			slices.Sort(woken)
		}
	}
	wakes(t, r, api.OK, woken...)
	takes(t, r, 4, 0, true)
}

// TestLocksAtAnEnd: who ends hands each lock to who waits longest for that, and wakes all who wait for its end.
func TestLocksAtAnEnd(t *testing.T) {
	r := desked(t, 8, 3)
	for lock, n := range []int{4, 4, 6} {
		takes(t, r, n, lock, true)
	}
	takes(t, r, 7, 1, false)
	takes(t, r, 2, 1, false)
	takes(t, r, 5, 2, false)
	for _, n := range []int{1, 8} {
		if w, now, e := r.threads[n-1].Join(4); now || w != 0 || e != api.OK {
			t.Fatal(w, now, e)
		}
	}
	wakes(t, r, api.OK)
	r.threads[3].end(api.Ended{Ended: true, Err: api.ErrVMRaised})
	wakes(t, r, api.OK, 1, 7, 8)
	for _, n := range []int{1, 8} {
		if _, now, e := r.threads[n-1].Join(4); !now || e != api.ErrVMRaised {
			t.Fatal(now, e)
		}
	}
	takes(t, r, 3, 0, true)
}

// TestRingOfLocks: threads that each hold a lock, and want the next one's: all are woken, to end, when the last one asks.
func TestRingOfLocks(t *testing.T) {
	for n := 2; n <= 8; n++ {
		r := desked(t, n, n)
		for i := range n {
			takes(t, r, i+1, i, true)
		}
		for i := range n {
			wakes(t, r, api.OK)
			takes(t, r, i+1, (i+1)%n, false)
		}
		var all []int
		for i := range n {
			all = append(all, i+1)
			if r.threads[i].await() {
				t.Error(i+1, "goes on")
			}
		}
		wakes(t, r, api.ErrFreeStuck, all...)
	}
}

// TestStuckAsTheLastOneEnds: the one by whom what others wait for could have come ends without that.
func TestStuckAsTheLastOneEnds(t *testing.T) {
	r := desked(t, 3, 1)
	takes(t, r, 1, 0, true)
	takes(t, r, 2, 0, false)
	r.threads[0].Join(2)
	wakes(t, r, api.OK)
	r.threads[2].end(api.Ended{Ended: true})
	wakes(t, r, api.ErrFreeStuck, 1, 2)
}

// TestNotStuckWhenAllHaveEnded: nobody is left who waits.
func TestNotStuckWhenAllHaveEnded(t *testing.T) {
	r := desked(t, 3, 0)
	r.threads[1].Join(1)
	r.threads[2].end(api.Ended{Ended: true})
	r.threads[0].end(api.Ended{Ended: true})
	wakes(t, r, api.OK, 2)
	r.threads[1].end(api.Ended{Ended: true})
	wakes(t, r, api.OK, 2)
}

// TestGivenUp: behind that nobody is left waiting: neither who waited, nor who begins to; and bells are not rung twice, whatever those
// who are in the midst of a step still do.
func TestGivenUp(t *testing.T) {
	r := desked(t, 6, 2)
	takes(t, r, 1, 0, true)
	takes(t, r, 2, 0, false)
	r.threads[2].Join(1)
	for range api.MaxFreeRuns {
		r.steps.Take()
	}
	r.tire()
	wakes(t, r, api.ErrFreeMuch, 2, 3)
	r.threads[3].Join(5)
	wakes(t, r, api.ErrFreeMuch, 2, 3, 4)
	if e := r.threads[0].Unlock(0); e != api.OK {
		t.Fatal(e)
	}
	r.threads[0].end(api.Ended{Ended: true})
	takes(t, r, 6, 0, false)
	r.threads[4].end(api.Ended{Ended: true})
	r.tire()
	wakes(t, r, api.ErrFreeMuch, 2, 3, 4, 6)
	for _, n := range []int{2, 3, 4, 6} {
		if r.threads[n-1].await() {
			t.Error(n, "goes on")
		}
	}
}

// byMany does something by sixteen goroutines at one time.
func byMany(do func(i int)) {
	var all sync.WaitGroup
	for i := range 16 {
		all.Add(1)
		go func() {
			defer all.Done()
			do(i)
		}()
	}
	all.Wait()
}

// TestEachNumberIsOnes: many ask for cells at one time: each is one's, and has what that one laid there; there are no more than all.
func TestEachNumberIsOnes(t *testing.T) {
	for range 20 {
		r := newRun(api.Config{Cells: api.MaxCells}, ending())
		var got [16][]int
		byMany(func(i int) {
			for {
				cell, ok, _ := r.Alloc(api.KindBox, api.Word(i), api.Word(len(got[i])))
				if !ok {
					return
				}
				got[i] = append(got[i], cell)
			}
		})
		heap := r.heap.Snapshot()
		var all []int
		for i, l := range got {
			if !slices.IsSorted(l) {
				t.Fatal("not rising")
			}
			for n, cell := range l {
				if heap[cell] != (api.Cell{Kind: api.KindBox, A: api.Word(i), B: api.Word(n)}) {
					t.Fatal(heap[cell])
				}
			}
			all = append(all, l...)
		}
		slices.Sort(all)
		if len(slices.Compact(all)) != api.MaxCells || len(all) != api.MaxCells {
			t.Fatal(len(all))
		}
	}
}

// TestGlobalsAreWhole: many lay words into a global at one time: each word comes out once, or stands there.
func TestGlobalsAreWhole(t *testing.T) {
	const times = 2000
	r := newRun(api.Config{Cells: 4}, ending())
	var out [16][]api.Word
	byMany(func(i int) {
		for n := range times {
			old, _ := r.SetGlobal(0, api.Word(i*times+n))
			out[i] = append(out[i], old)
		}
	})
	all := []api.Word{r.Global(0)}
	for _, l := range out {
		all = append(all, l...)
	}
	seen := map[api.Word]int{}
	for _, w := range all {
		seen[w]++
	}
	// The word of TagNone is 4, which one of them lays, too.
	if len(all) != 16*times+1 || len(seen) != 16*times || seen[sole(api.TagNone)] != 2 {
		t.Error(len(all), len(seen), seen[sole(api.TagNone)])
	}
}

// TestNinthThread: the desk has eight at most, and one that it refuses does not go.
func TestNinthThread(t *testing.T) {
	r := desked(t, 8, 0)
	if n, e := r.Spawn(0, sole(api.TagNil)); n != 0 || e != api.ErrLocksMuch || len(r.threads) != 8 {
		t.Error(n, e, len(r.threads))
	}
	r.all.Wait()
}
