package shake_test

import (
	"math/rand"
	"testing"

	"dapple/api"
	"dapple/shake"
)

// watcher has heard all answers of a Shake from its beginning on, and knows no more than they told.
type watcher struct {
	desk
	alone   *shake.Shake // which hears only those calls that the other one took
	threads int
	inCycle bool
	toLay   map[int]bool   // who has to be laid in this cycle, and has not been
	laid    map[int]int    // how often, in this cycle
	seen    map[string]int // how often what was to be seen was seen
}

func newWatcher(t *testing.T, seen map[string]int) *watcher {
	return &watcher{desk: newDesk(t, 0), alone: shake.New(), seen: seen}
}

// notScanned is how many threads are not.
func (w *watcher) notScanned() int {
	out := 0
	for thread := 1; thread <= w.threads; thread++ {
		if !w.s.Scanned(thread) {
			out++
		}
	}
	return out
}

// hear makes a call, and holds the answer against the sentences of 'What holds'.
func (w *watcher) hear(c call) {
	w.Helper()
	left, not, parentLeft := w.s.Left(), w.notScanned(), c.n != 0 && !w.s.Scanned(c.n)
	is := made(w.s, c)
	if c.what == ending && (is.e == api.OK) != (w.inCycle && left == 0) {
		w.Fatalf("End: %d, while Left is %d, and in a cycle is %v", is.e, left, w.inCycle)
	}
	if is.e != api.OK {
		w.seen["refused"]++
		w.standsAsAlone(c)
		return
	}
	if also := made(w.alone, c); also != is {
		w.Fatalf("%v: %v, and %v without the calls that were refused", c, is, also)
	}
	w.take(c, parentLeft)
	w.standsAsAlone(c)
	w.countsBehind(c, not)
	w.leftIsWhoHasToBeLaid(c)
}

// take notes what a call that was taken means.
func (w *watcher) take(c call, parentLeft bool) {
	w.Helper()
	switch c.what {
	case bearing:
		w.threads++
		if parentLeft {
			w.toLay[w.threads] = true
			w.seen["born of one that is not scanned"]++
		} else if w.inCycle && w.notScanned() > 0 {
			w.seen["born scanned, while others are not"]++
		}
	case beginning:
		w.inCycle, w.toLay, w.laid = true, map[int]bool{}, map[int]int{}
		for thread := 1; thread <= w.threads; thread++ {
			w.toLay[thread] = true
		}
		w.seen["a cycle begins"]++
	case laying:
		w.laid[c.n]++
		if w.laid[c.n] > 1 {
			w.Fatalf("%v: it is laid %d times", c, w.laid[c.n])
		}
		if !w.toLay[c.n] {
			w.Fatalf("%v: it had not to be laid", c)
		}
		delete(w.toLay, c.n)
		w.seen["laid"]++
	case asking:
		w.seen["asked"]++
	case ending:
		if len(w.toLay) > 0 {
			w.Fatalf("End, though %v are to be laid", w.toLay)
		}
		w.inCycle = false
		w.seen["a cycle ends"]++
		if len(w.laid) == 8 {
			w.seen["a cycle of eight ends"]++
		}
	}
}

// standsAsAlone: what it tells of itself is what one tells that never heard of the calls that were refused.
func (w *watcher) standsAsAlone(c call) {
	w.Helper()
	if is, also := told(w.s), told(w.alone); is != also {
		w.Fatalf("behind %v: %s, and %s without the calls that were refused", c, is, also)
	}
}

// countsBehind: behind a Lay there is one less that is not scanned; a birth adds one at most; asking changes nothing in it.
func (w *watcher) countsBehind(c call, not int) {
	w.Helper()
	now := w.notScanned()
	switch c.what {
	case laying:
		if now != not-1 {
			w.Fatalf("%v: %d were not scanned, and %d are not", c, not, now)
		}
	case asking, ending:
		if now != not {
			w.Fatalf("%v: %d were not scanned, and %d are not", c, not, now)
		}
	case beginning:
		if now != w.threads {
			w.Fatalf("%v: of %d threads %d are not scanned", c, w.threads, now)
		}
	}
}

// leftIsWhoHasToBeLaid: Left is the least of those that were there when the cycle began, or were born of one that was not scanned, and have not been laid.
func (w *watcher) leftIsWhoHasToBeLaid(c call) {
	w.Helper()
	want := 0
	if w.inCycle {
		for thread := w.threads; thread >= 1; thread-- {
			if w.toLay[thread] {
				want = thread
			}
		}
	}
	if is := w.s.Left(); is != want {
		w.Fatalf("behind %v: Left is %d, while %v are to be laid", c, is, w.toLay)
	}
}

func TestWhatHolds(t *testing.T) {
	r := rand.New(rand.NewSource(143))
	seen := map[string]int{}
	for i := range 800 {
		w := newWatcher(t, seen)
		many := 100
		if i%4 == 0 {
			many = 400
		}
		for _, c := range drawnRow(r, many) {
			w.hear(c)
		}
	}
	for what, least := range map[string]int{
		"refused": 5000, "a cycle begins": 3000, "asked": 5000, "laid": 5000, "a cycle ends": 2500, "a cycle of eight ends": 50,
		"born of one that is not scanned": 1000, "born scanned, while others are not": 300,
	} {
		if seen[what] < least {
			t.Errorf("%s: seen %d times", what, seen[what])
		}
	}
}

// TestItCanAlwaysBeEnded: from whatever there can be on, a cycle ends behind so many Lays as there are that are not scanned, each of who is left.
func TestItCanAlwaysBeEnded(t *testing.T) {
	most := 0
	atEachPicture(func(p plain, _, _ []call) {
		if p.begun() < 0 {
			return
		}
		d := desk{t, replayed(t, p)}
		laid := 0
		for thread := d.s.Left(); thread != 0; thread = d.s.Left() {
			d.mayNotEnd()
			d.lays(thread)
			laid++
			if laid > 8 {
				t.Fatalf("%v: Left is %d behind %d Lays", p, d.s.Left(), laid)
			}
		}
		d.ends()
		most = max(most, laid)
	})
	if most != 8 {
		t.Errorf("%d Lays at most", most)
	}
}

// TestBornAtEachMomentOfACycle: of each of four threads, with so many laid ahead of it, in every order: it is to be laid just if its parent was not.
func TestBornAtEachMomentOfACycle(t *testing.T) {
	eachOrder(4, func(row []int) {
		for ahead := range 5 {
			for parent := range 5 {
				d := begun(t, 4)
				d.lays(row[:ahead]...)
				toLay := parent != 0 && !d.s.Scanned(parent)
				d.born(parent, 5)
				d.lays(row[ahead:]...)
				if toLay {
					d.left(5)
					d.mayNotEnd()
					d.lays(5)
				}
				d.left(0)
				d.mayNotLay(5)
				d.ends()
			}
		}
	})
}

// TestManyCycles: however many came and went, each is as the first one.
func TestManyCycles(t *testing.T) {
	d := newDesk(t, 8)
	for turn := range 20000 {
		d.begins()
		for i := range 8 {
			thread := 1 + (i*5+turn)%8
			if turn>>i&1 == 1 {
				d.asks(thread)
			}
			d.lays(thread)
		}
		if d.s.Left() != 0 || d.s.Asked(1+turn%8) {
			t.Fatalf("turn %d: %s", turn, told(d.s))
		}
		d.ends()
	}
	d.bearsNone(api.ErrMuch, 0)
}
