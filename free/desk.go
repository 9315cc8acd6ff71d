package free

import (
	"sync"

	"dapple/api"
	"dapple/locks"
	"dapple/vm"
)

// desk is where threads meet. Its mutex is taken by what threads ask of it, and is held by what that asks in turn.
type desk struct {
	mutex   sync.Mutex
	book    *locks.Book // of threads and locks; the globals are the run's
	threads []*thread   // thread n stands at n - 1
	fault   api.Errno   // why the run was given up
}

func newDesk(count int) *desk {
	book, _ := locks.New(count, 0)
	return &desk{book: book}
}

// Spawn begins a thread.
func (r *run) Spawn(proc int, env api.Word) (int, api.Errno) {
	machine, e := vm.New(r.program, proc, env)
	if e != api.OK {
		return 0, e
	}
	r.mutex.Lock()
	defer r.mutex.Unlock()
	t, e := r.enter(machine)
	if e != api.OK {
		return 0, e
	}
	t.begin()
	return t.number, api.OK
}

// Join is the result of a thread; or this one waits for its end.
func (t *thread) Join(thread int) (api.Word, bool, api.Errno) {
	t.mutex.Lock()
	defer t.mutex.Unlock()
	w, now, e := t.book.Join(t.number, thread)
	t.mayWait()
	return w, now, e
}

// Lock takes a lock; or this one waits for it.
func (t *thread) Lock(n int) (bool, api.Errno) {
	t.mutex.Lock()
	defer t.mutex.Unlock()
	now, e := t.book.Lock(t.number, n)
	t.mayWait()
	return now, e
}

// Unlock hands one on.
func (t *thread) Unlock(n int) api.Errno {
	t.mutex.Lock()
	defer t.mutex.Unlock()
	next, e := t.book.Unlock(t.number, n)
	if next != 0 {
		t.wake(next)
	}
	return e
}

// end notes how it has ended.
func (t *thread) end(how api.Ended) {
	t.mutex.Lock()
	defer t.mutex.Unlock()
	woken, _ := t.book.End(t.number, how.Word, how.Err)
	t.wake(woken...)
	t.mind()
}

// await stands still till the thread's bell is rung; false, if that is because the run was given up.
func (t *thread) await() bool {
	<-t.bell
	t.mutex.Lock()
	defer t.mutex.Unlock()
	return !t.isGivenUp()
}

// tire gives the run up, as somebody would go a step more than may be gone.
func (r *run) tire() {
	r.mutex.Lock()
	defer r.mutex.Unlock()
	r.giveUp()
}

// enter is a new thread, which does not go yet.
func (r *run) enter(machine *vm.Thread) (*thread, api.Errno) {
	number, e := r.book.Start()
	if e != api.OK {
		return nil, e
	}
	t := &thread{run: r, number: number, machine: machine}
	r.threads = append(r.threads, t)
	return t, api.OK
}

// mayWait gives it a bell, if it waits from now on.
func (t *thread) mayWait() {
	if !t.book.Waits(t.number) {
		return
	}
	t.bell = make(chan struct{})
	if t.isGivenUp() {
		close(t.bell)
	}
	t.mind()
}

// wake rings the bells of threads that waited. Where the run is given up, all bells have been rung.
func (d *desk) wake(threads ...int) {
	if d.isGivenUp() {
		return
	}
	for _, n := range threads {
		close(d.threads[n-1].bell)
	}
}

func (d *desk) isGivenUp() bool { return d.fault != api.OK }

// mind gives the run up, if it is stuck: it can come to that whenever somebody begins to wait, or ends.
func (r *run) mind() {
	if r.isStuck() {
		r.giveUp()
	}
}

// isStuck tells whether some have not ended, and all of these wait: nobody is left by whom what they wait for could come.
func (d *desk) isStuck() bool {
	stuck := false
	for _, t := range d.threads {
		end, _ := d.book.Ended(t.number)
		if !end.Ended && !d.book.Waits(t.number) {
			return false
		}
		stuck = stuck || !end.Ended
	}
	return stuck
}

// giveUp lets nobody go any more, and wakes all who wait. Who is stuck when just as many steps as may be are gone has gone too
// many, too: that is told first.
func (r *run) giveUp() {
	if r.isGivenUp() {
		return
	}
	r.fault = api.ErrFreeStuck
	if r.steps.Taken() >= api.MaxFreeRuns {
		r.fault = api.ErrFreeMuch
	}
	for _, t := range r.threads {
		if r.book.Waits(t.number) {
			close(t.bell)
		}
	}
}
