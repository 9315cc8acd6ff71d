package par

import (
	"sync"
	"testing"
	"time"

	"dapple/api"
)

// TestWorkersAreThereAtOneTime: each of them waits till all have come, which they can do only at one time; and nobody goes on till all have ended.
func TestWorkersAreThereAtOneTime(t *testing.T) {
	for workers := 1; workers <= api.MaxWorkers; workers++ {
		var come sync.WaitGroup
		come.Add(workers)
		places := make([]int, workers)
		ended := make(chan struct{})
		go func() {
			byMany(workers, func(i int) {
				come.Done()
				come.Wait()
				places[i]++
			})
			close(ended)
		}()
		select {
		case <-ended:
		case <-time.After(20 * time.Second):
			t.Fatalf("%d workers wait for each other", workers)
		}
		for i, n := range places {
			if n != 1 {
				t.Errorf("of %d workers %d have the place %d", workers, n, i)
			}
		}
	}
}

// someHeap are pairs of which each names the next two.
func someHeap(n int) []api.Cell {
	h := make([]api.Cell, n)
	for i := range h {
		h[i] = api.Cell{Kind: api.KindPair, A: api.Word((i+1)%n)<<4 | 8, B: api.Word((i+2)%n)<<4 | 8}
	}
	return h
}

// TestOneWorkerOfMany: whoever of the workers does all of it, as the others sleep, it comes to the same, and who wakes late finds nothing left.
func TestOneWorkerOfMany(t *testing.T) {
	const n, workers = 1000, 4
	m := newMarking(someHeap(n), workers, []api.Word{8, 8, 1})
	for range workers - 1 {
		m.done()
	}
	if s := m.work(); s != (api.Sums{Greyed: n, Scanned: n}) {
		t.Errorf("%+v", s)
	}
	if _, more := <-m.grey; more || m.open.Load() != 0 {
		t.Error("something is left open")
	}
	for i, is := range m.live() {
		if !is {
			t.Fatalf("%d is not live", i)
		}
	}
	s := newSweeping(someHeap(n), make([]bool, n))
	s.work()
	swept := 0
	for _, l := range s.freed {
		swept += len(l)
	}
	s.work()
	if swept != n {
		t.Errorf("%d are swept", swept)
	}
}

// TestOneWinsACell: very many turn the same cells at one time: each turn of each cell is one's.
func TestOneWinsACell(t *testing.T) {
	const n = 2000
	for range 20 {
		m := newMarking(someHeap(n), 1, nil)
		greyed, blackened := make([]int, api.MaxWorkers), make([]int, api.MaxWorkers)
		byMany(api.MaxWorkers, func(i int) {
			for cell := range n {
				if m.turn(cell, api.White, api.Grey) {
					greyed[i]++
				}
				if m.turn(cell, api.Grey, api.Black) {
					blackened[i]++
				}
			}
		})
		g, b := 0, 0
		for i := range greyed {
			g, b = g+greyed[i], b+blackened[i]
		}
		if g != n || b != n {
			t.Fatalf("%d became grey, %d black", g, b)
		}
	}
}
