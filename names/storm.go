package names

import (
	"slices"
	"sync"

	"dapple/api"
	"dapple/atoms"
)

// storm is texts that are interned by many, and what comes of each, at its place.
type storm struct {
	texts   []string
	numbers []int
	errors  []api.Errno
	// isNew tells which ones are names that the table had not: which numbers those get must not hang on who came first.
	isNew []bool
}

// Storm lets so many goroutines intern names; the number of each, at its place.
func (t *Table) Storm(workers int, l ...string) ([]int, []api.Errno) {
	s := storm{
		texts:   l,
		numbers: make([]int, len(l)),
		errors:  make([]api.Errno, len(l)),
		isNew:   make([]bool, len(l)),
	}
	t.seek(min(max(workers, 1), api.MaxWorkers), s)
	t.layDown(s)
	return s.numbers, s.errors
}

// seek lets so many goroutines ask for all texts, each of which is asked for by one of them.
func (t *Table) seek(workers int, s storm) {
	next := atoms.NewTicket()
	var all sync.WaitGroup
	for range workers {
		all.Add(1)
		go func() {
			defer all.Done()
			for i := next.Take(); i < uint64(len(s.texts)); i = next.Take() {
				t.seekOne(s, i)
			}
		}()
	}
	all.Wait()
}

// seekOne tells of one text that it is no name, or its number, or that it is new.
func (t *Table) seekOne(s storm, i uint64) {
	if !isName(s.texts[i]) {
		s.errors[i] = api.ErrNamesForm
		return
	}
	n, ok := t.Find(s.texts[i])
	s.numbers[i], s.isNew[i] = n, !ok
}

// layDown lays down all that is new, in the order of the texts, by one exchange.
func (t *Table) layDown(s storm) {
	if !slices.Contains(s.isNew, true) {
		return
	}
	for {
		there := t.has.Load()
		more := there.copied()
		for i, text := range s.texts {
			if s.isNew[i] {
				s.numbers[i], s.errors[i] = more.intern(text)
			}
		}
		if t.has.CompareAndSwap(there, more) {
			return
		}
	}
}
