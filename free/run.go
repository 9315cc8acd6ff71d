package free

import (
	"sync"
	"sync/atomic"

	"dapple/api"
	"dapple/atoms"
	"dapple/cells"
	"dapple/vm"
	"dapple/words"
)

// run is what the threads of one run share.
type run struct {
	*desk
	program api.Code
	heap    *cells.Heap
	fresh   *atoms.Ticket   // cells that nobody ever had, by their numbers
	globals []atomic.Uint64 // words
	steps   *atoms.Ticket   // one is taken ahead of each step
	all     sync.WaitGroup  // the threads' goroutines
}

// newRun is a run without threads.
func newRun(c api.Config, program api.Code) *run {
	heap, _ := cells.New(c.Cells)
	r := &run{
		desk:    newDesk(c.Locks),
		program: program,
		heap:    heap,
		fresh:   atoms.NewTicket(),
		globals: make([]atomic.Uint64, len(program.Globals)),
		steps:   atoms.NewTicket(),
	}
	for i := range r.globals {
		r.globals[i].Store(uint64(sole(api.TagNone)))
	}
	return r
}

// beginAll lets a thread of each of these machines go. All of them are there ahead of the first one's going: who is spawned gets a
// number behind theirs, and till then nobody is at the desk.
func (r *run) beginAll(machines []*vm.Thread) {
	var first []*thread
	for _, machine := range machines {
		t, _ := r.enter(machine)
		first = append(first, t)
	}
	for _, t := range first {
		t.begin()
	}
}

// outcome is what came of it, when all have ended: so many threads were there at the beginning.
func (r *run) outcome(first int) Outcome {
	out := Outcome{
		Ended:   make([]api.Ended, first),
		Globals: make([]api.Word, len(r.globals)),
		Heap:    r.heap.Snapshot(),
		Threads: r.book.Threads(),
		Steps:   int(r.steps.Taken()),
	}
	for i := range out.Ended {
		out.Ended[i], _ = r.book.Ended(i + 1)
	}
	for i := range out.Globals {
		out.Globals[i] = r.Global(i)
	}
	return out
}

// sole is the word of a tag that has one alone.
func sole(t api.Tag) api.Word {
	w, _ := words.Make(t, 0)
	return w
}
