package once

import (
	"sync"

	"dapple/api"
)

// Future is a word that is set once.
type Future struct {
	setting sync.Once
	word    api.Word
	there   chan struct{} // is closed, when the word is there
}

// NewFuture is one that is not set.
func NewFuture() *Future { return &Future{there: make(chan struct{})} }

// Set sets it; an error, if it was set.
func (f *Future) Set(w api.Word) api.Errno {
	e := api.ErrOnceTwice
	// Who is refused has waited till the word is there.
	f.setting.Do(func() {
		f.word = w
		close(f.there)
		e = api.OK
	})
	return e
}

// Get waits till it is set.
func (f *Future) Get() api.Word {
	<-f.there
	return f.word
}

// Is tells whether it is set.
func (f *Future) Is() bool {
	select {
	case <-f.there:
		return true
	default:
		return false
	}
}
