package alloc_test

import (
	"math/rand"
	"slices"
	"testing"

	"dapple/alloc"
	"dapple/api"
)

// watcher has heard all answers of an Alloc from its beginning on, and knows no more than they told.
type watcher struct {
	desk
	cells int
	out   []int          // the cells that were got, and have not come back
	given map[int]int    // by cell: to whom it was told to be given
	row   []api.Waiter   // who was told to wait, and neither served nor refused since
	gone  map[string]int // how often what was to be seen was seen
}

func newWatcher(t *testing.T, cells int, seen map[string]int) *watcher {
	return &watcher{desk: newDesk(t, cells), cells: cells, given: map[int]int{}, gone: seen}
}

// isWaiting tells whether a thread is, by what was told.
func (w *watcher) isWaiting(thread int) bool {
	return slices.ContainsFunc(w.row, func(x api.Waiter) bool { return x.Thread == thread })
}

// giftOf is the cell that was told to be given to a thread; -1: none.
func (w *watcher) giftOf(thread int) int {
	for cell, to := range w.given {
		if to == thread {
			return cell
		}
	}
	return -1
}

// hear makes a call, and holds the answer against the sentences of 'What holds'.
func (w *watcher) hear(c call) {
	w.Helper()
	switch c.what {
	case asking:
		w.hearAsk(c)
	case coming:
		w.hearBack(c)
	case finishing:
		w.hearFinish(c)
	}
	w.eachCellIsOne()
}

func (w *watcher) hearAsk(c call) {
	w.Helper()
	free, gift := w.a.Free(), w.giftOf(c.n)
	cell, got, e := w.a.Ask(c.n, c.m)
	if e != api.OK {
		w.gone["an Ask that may not be"]++
		if c.n >= 1 && c.n <= 8 && !w.isWaiting(c.n) {
			w.Fatalf("%v: %d, though the thread does not wait", c, e)
		}
		return
	}
	if c.n < 1 || c.n > 8 || w.isWaiting(c.n) {
		w.Fatalf("%v: it may not be", c)
	}
	switch {
	case !got:
		if len(free) > 0 || gift >= 0 {
			w.Fatalf("%v: it waits, though %v are free, %d is given to it", c, free, gift)
		}
		w.row = append(w.row, api.Waiter{Thread: c.n, Begun: c.m})
		w.gone["waits"]++
	case gift >= 0:
		if cell != gift {
			w.Fatalf("%v: %d, though %d is given to it", c, cell, gift)
		}
		delete(w.given, gift)
		w.out = append(w.out, cell)
		w.gone["a gift is got"]++
	default:
		if len(free) == 0 || cell != slices.Min(free) || slices.Contains(w.out, cell) {
			w.Fatalf("%v: %d, of %v, while %v are out", c, cell, free, w.out)
		}
		w.out = append(w.out, cell)
		w.gone["a free one is got"]++
	}
}

func (w *watcher) hearBack(c call) {
	w.Helper()
	to, e := w.a.Back(c.n)
	i := slices.Index(w.out, c.n)
	if (e == api.OK) != (i >= 0) {
		w.Fatalf("%v: %d, while %v are out", c, e, w.out)
	}
	if e != api.OK {
		w.gone["a Back that may not be"]++
		return
	}
	w.out = slices.Delete(w.out, i, i+1)
	if len(w.row) == 0 {
		if to != 0 {
			w.Fatalf("%v: %d, though nobody waits", c, to)
		}
		w.gone["it is free"]++
		return
	}
	if to != w.row[0].Thread {
		w.Fatalf("%v: %d, while %v wait", c, to, w.row)
	}
	w.row = w.row[1:]
	w.given[c.n] = to
	w.gone["it is given"]++
}

func (w *watcher) hearFinish(c call) {
	w.Helper()
	refused := w.a.Finish(c.n, c.m)
	if c.m != 0 && len(refused) > 0 {
		w.Fatalf("%v: %v, though it gave something back", c, refused)
	}
	at := -1
	for _, thread := range refused {
		i := slices.IndexFunc(w.row, func(x api.Waiter) bool { return x.Thread == thread })
		if i <= at || w.row[i].Begun >= c.n {
			w.Fatalf("%v: %v, while %v wait", c, refused, w.row)
		}
		at = i
	}
	w.row = slices.DeleteFunc(w.row, func(x api.Waiter) bool { return slices.Contains(refused, x.Thread) })
	for _, x := range w.row {
		if c.m == 0 && x.Begun < c.n {
			w.Fatalf("%v: %v stays", c, x)
		}
	}
	if len(refused) > 0 {
		w.gone["refused"]++
	}
	if len(refused) > 0 && len(w.row) > 0 {
		w.gone["refused among others"]++
	}
}

// eachCellIsOne: each is just one of free, out and given; none is free while somebody waits; who waits has no gift.
func (w *watcher) eachCellIsOne() {
	w.Helper()
	free := w.a.Free()
	all := slices.Concat(free, w.out)
	for cell := range w.given {
		all = append(all, cell)
	}
	slices.Sort(all)
	if !slices.Equal(all, upTo(w.cells)) {
		w.Fatalf("free %v, out %v, given %v", free, w.out, w.given)
	}
	w.waiting(w.row...)
	if len(w.row) > 0 && len(free) > 0 {
		w.Fatalf("%v are free, %v wait", free, w.row)
	}
	threads := []int{}
	for _, x := range w.row {
		threads = append(threads, x.Thread)
	}
	for _, thread := range w.given {
		threads = append(threads, thread)
	}
	slices.Sort(threads)
	if len(slices.Compact(slices.Clone(threads))) != len(threads) {
		w.Fatalf("%v wait, %v are given", w.row, w.given)
	}
}

func TestWhatHolds(t *testing.T) {
	r := rand.New(rand.NewSource(122))
	seen := map[string]int{}
	for i := range 300 {
		cells := 4 + r.Intn(6)
		if i%10 == 0 {
			cells = 4 + r.Intn(40)
		}
		w := newWatcher(t, cells, seen)
		for _, c := range drawnRow(r, cells, 300) {
			w.hear(c)
		}
	}
	for _, s := range []string{"an Ask that may not be", "waits", "a gift is got", "a free one is got", "a Back that may not be", "it is free", "it is given", "refused", "refused among others"} {
		if seen[s] < 500 {
			t.Errorf("%s: seen %d times", s, seen[s])
		}
	}
}

// TestServedByTheFirstBackThatFindsNobodyAhead: of each who waits it is reckoned how many Backs must come; newcomers and refusals behind it change nothing.
func TestServedByTheFirstBackThatFindsNobodyAhead(t *testing.T) {
	r := rand.New(rand.NewSource(123))
	for range 2000 {
		d := allOut(t, 12)
		threads := r.Perm(8)
		ahead := r.Intn(7)
		for _, i := range threads[:ahead+1] {
			d.waits(5, i+1)
		}
		mine := threads[ahead] + 1
		rest := threads[ahead+1:]
		cells := r.Perm(12)
		for i := range ahead + 1 {
			if r.Intn(2) == 0 && len(rest) > 0 {
				if r.Intn(2) == 0 {
					d.waits(1, rest[0]+1)
					d.refuses(2, 0, rest[0]+1)
				} else {
					d.waits(5, rest[0]+1)
					rest = rest[1:]
				}
			}
			d.goesTo(cells[i], threads[i]+1)
			if (i == ahead) == slices.ContainsFunc(d.a.Waiting(), func(w api.Waiter) bool { return w.Thread == mine }) {
				t.Fatalf("thread %d with %d ahead of it, behind %d Backs: %v", mine, ahead, i+1, d.a.Waiting())
			}
			if i < ahead && r.Intn(2) == 0 {
				d.gets(threads[i]+1, cells[i])
			}
		}
		d.gets(mine, cells[ahead])
	}
}

// TestOneWhoIsAheadAndRefused: those behind it move up.
func TestOneWhoIsAheadAndRefused(t *testing.T) {
	d := allOut(t, 4)
	d.waits(1, 4)
	d.waits(2, 3)
	d.waits(1, 6)
	d.waits(2, 5)
	d.refuses(2, 0, 4, 6)
	d.goesTo(3, 3)
	d.goesTo(0, 5)
	d.goesTo(1, 0)
}

// TestNoneIsLostOverLongTimes: what goes out and comes back very often is still all there.
func TestNoneIsLostOverLongTimes(t *testing.T) {
	a, _ := alloc.New(4)
	for turn := range 200000 {
		for cell := range 4 {
			if c, got, _ := a.Ask(1+turn%8, turn); c != cell || !got {
				t.Fatalf("turn %d: %d, %v", turn, c, got)
			}
		}
		a.Ask(1+turn%8, turn)
		if turn%2 == 0 {
			if l := a.Finish(turn+1, 0); len(l) != 1 {
				t.Fatalf("turn %d: %v", turn, l)
			}
		}
		for cell := range 4 {
			a.Back((cell + turn) % 4)
		}
		if turn%2 == 1 {
			cell, got, _ := a.Ask(1+turn%8, turn)
			if cell != turn%4 || !got {
				t.Fatalf("turn %d: %d, %v", turn, cell, got)
			}
			a.Back(cell)
		}
	}
	if l := a.Free(); !slices.Equal(l, upTo(4)) || len(a.Waiting()) != 0 {
		t.Errorf("%v, %v", l, a.Waiting())
	}
}
