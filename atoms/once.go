package atoms

import (
	"sync"

	"dapple/api"
)

// Once is a number that is made once.
type Once struct {
	once   sync.Once
	number int64
	err    api.Errno
}

// NewOnce is a once that has no number.
func NewOnce() *Once { return &Once{} }

// Do makes it, if it was not made; the number, whether this call made it, and its error.
func (o *Once) Do(f func() int64) (int64, bool, api.Errno) {
	first := false
	o.once.Do(func() {
		first = true
		o.fill(f)
	})
	return o.number, first, o.err
}

// fill keeps what f makes.
func (o *Once) fill(f func() int64) {
	// The error stands there ahead of the call: f has ended well only if the line behind its call is come to.
	o.err = api.ErrOncePanic
	defer func() { _ = recover() }()
	o.number = f()
	o.err = api.OK
}
