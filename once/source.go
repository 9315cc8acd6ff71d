package once

import (
	"slices"
	"strings"
	"sync"

	"dapple/api"
	"dapple/atoms"
	"dapple/compile"
	"dapple/forms"
	"dapple/names"
	"dapple/read"
)

// source is a text, and what it comes to. That is made in two goes: its forms, which hang on the text alone, beside other
// sources'; then its code, for which symbols get their numbers, behind or ahead of other sources'.
type source struct {
	text    string
	reading sync.Once
	forms   []api.Form // from the first go to the second one
	code    api.Code
	err     api.Errno
	place   int
	made    *atoms.Flag // is set behind both
}

func newSource(text string) *source {
	// The text may be cut out of a longer one, all of which it would keep.
	return &source{text: strings.Clone(text), made: atoms.NewFlag()}
}

// read makes the forms, if they were not made; whoever asks meanwhile waits.
func (s *source) read() {
	s.reading.Do(func() {
		s.forms, s.err, s.place = formsOf(s.text)
	})
}

// formsOf are the forms of a text; with an error its place: read's, or the number of the datum.
func formsOf(text string) ([]api.Form, api.Errno, int) {
	data, e, at := read.Read(text)
	if e != api.OK {
		return nil, e, at
	}
	out := make([]api.Form, len(data))
	for i, d := range data {
		if out[i], e, _ = forms.Of(d); e != api.OK {
			return nil, e, i
		}
	}
	return out, api.OK, 0
}

// compile makes the code of the forms. It is called once, by who has the lock of the table.
func (s *source) compile(t *names.Table) {
	if s.err == api.OK {
		s.code, s.err, s.place = compile.Compile(t, s.forms...)
	}
	s.forms = nil
	s.made.Set()
}

// told is what a source that is made comes to, in memory of its own.
func (s *source) told() (api.Code, api.Errno, int) {
	c := api.Code{
		Consts:  slices.Clone(s.code.Consts),
		Procs:   slices.Clone(s.code.Procs),
		Globals: slices.Clone(s.code.Globals),
	}
	for i := range c.Procs {
		c.Procs[i].Code = slices.Clone(c.Procs[i].Code)
	}
	return c, s.err, s.place
}
