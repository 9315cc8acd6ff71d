package locks

import (
	"slices"

	"dapple/api"
)

// row is who waits for one thing, the one who waits longest first.
type row struct {
	waiting []int
}

// threadState is a thread: in its row stands who waits for its end.
type threadState struct {
	row
	end api.Ended
}

// lockState is a lock: in its row stands who waits for it. There is nobody in the row of one that is free.
type lockState struct {
	row
	holder int // 0: nobody
}

func (r *row) stand(thread int) { r.waiting = append(r.waiting, thread) }

func (r *row) has(thread int) bool { return slices.Contains(r.waiting, thread) }

// takeFirst cuts off the one who waits longest; 0, if nobody does.
func (r *row) takeFirst() int {
	n := len(r.waiting)
	if n == 0 {
		return 0
	}
	first := r.waiting[0]
	// without room behind it: who stands there next brings the row to memory of its own, and those who have gone are let go of
	r.waiting = r.waiting[1:n:n]
	return first
}

// handOn gives the lock to the one who waits longest; 0: to nobody, it is free then.
func (l *lockState) handOn() int {
	l.holder = l.takeFirst()
	return l.holder
}
