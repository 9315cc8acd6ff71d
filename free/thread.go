package free

import (
	"dapple/api"
	"dapple/vm"
)

// thread is what acts for a thread: the run, and that thread's number. Its machine knows it as what does its accesses.
type thread struct {
	*run
	number  int
	machine *vm.Thread
	bell    chan struct{} // is closed, when what it waits for has come, or the run is given up
}

// begin lets it go, by a goroutine of its own.
func (t *thread) begin() {
	t.all.Add(1)
	go func() {
		defer t.all.Done()
		t.goSteps()
	}()
}

// goSteps goes its steps till it has ended, or the run is given up.
func (t *thread) goSteps() {
	for t.steps.Take() < api.MaxFreeRuns {
		told := t.machine.Step(t)
		if how := t.machine.Ended(); how.Ended {
			t.end(how)
			return
		}
		if !t.goesOn(told.What) {
			return
		}
	}
	t.tire()
}

// goesOn tells, behind a step of that kind, whether there is a next one; who has to wait first waits.
func (t *thread) goesOn(did api.What) bool {
	switch did {
	case api.StepWait:
		t.machine.Refuse()
	case api.StepWaitJoin, api.StepWaitLock:
		return t.await()
	}
	return true
}
