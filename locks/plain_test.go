package locks_test

import (
	"fmt"
	"maps"
	"math/rand"
	"slices"
	"testing"

	"dapple/api"
	"dapple/locks"
)

// The chapter once more, in the plainest way: there are no rows; each thread has written down what it waits for, and since when.

type what int

const (
	starting what = iota
	ending
	joining
	locking
	unlocking
	setting
	whats
)

// call is one of the six calls that change something.
type call struct {
	what what
	a, b int // the thread, or global; and the other thread, or lock
	w    api.Word
	err  api.Errno
}

func (c call) String() string {
	switch c.what {
	case starting:
		return "Start()"
	case ending:
		return fmt.Sprintf("End(%d, %d, %d)", c.a, c.w, c.err)
	case joining:
		return fmt.Sprintf("Join(%d, %d)", c.a, c.b)
	case locking:
		return fmt.Sprintf("Lock(%d, %d)", c.a, c.b)
	case unlocking:
		return fmt.Sprintf("Unlock(%d, %d)", c.a, c.b)
	}
	return fmt.Sprintf("SetGlobal(%d, %d)", c.a, c.w)
}

// answer is what a call gives; what it does not give is its zero value.
type answer struct {
	n   int
	l   []int
	w   api.Word
	now bool
	e   api.Errno
}

func (a answer) same(b answer) bool {
	return a.n == b.n && slices.Equal(a.l, b.l) && a.w == b.w && a.now == b.now && a.e == b.e
}

// taken tells whether a call with that answer may have changed something: Join has an error of the other one, too.
func (a answer) taken() bool { return a.e == api.OK || a.now }

func made(b *locks.Book, c call) (a answer) {
	switch c.what {
	case starting:
		a.n, a.e = b.Start()
	case ending:
		a.l, a.e = b.End(c.a, c.w, c.err)
	case joining:
		a.w, a.now, a.e = b.Join(c.a, c.b)
	case locking:
		a.now, a.e = b.Lock(c.a, c.b)
	case unlocking:
		a.n, a.e = b.Unlock(c.a, c.b)
	case setting:
		a.w, a.e = b.SetGlobal(c.a, c.w)
	}
	return a
}

// plainThread waits for the end of thread forEnd, if that is not 0; or for lock forLock - 1.
type plainThread struct {
	forEnd, forLock, since int
	ended                  api.Ended
}

func (t plainThread) waits() bool { return t.forEnd != 0 || t.forLock != 0 }
func (t plainThread) goes() bool  { return !t.waits() && !t.ended.Ended }

type plain struct {
	threads map[int]*plainThread
	holders map[int]int
	globals map[int]api.Word
	moment  int
}

func newPlain(locksOf, globals int) *plain {
	p := &plain{threads: map[int]*plainThread{}, holders: map[int]int{}, globals: map[int]api.Word{}}
	for i := range locksOf {
		p.holders[i] = 0
	}
	for i := range globals {
		p.globals[i] = none
	}
	return p
}

func (p *plain) copied() *plain {
	q := &plain{threads: map[int]*plainThread{}, holders: maps.Clone(p.holders), globals: maps.Clone(p.globals), moment: p.moment}
	for n, t := range p.threads {
		of := *t
		q.threads[n] = &of
	}
	return q
}

func (p *plain) made(c call) answer {
	p.moment++
	switch c.what {
	case starting:
		return p.start()
	case ending:
		return p.end(c)
	case joining:
		return p.join(c.a, c.b)
	case locking, unlocking:
		return p.lock(c)
	}
	if _, ok := p.globals[c.a]; !ok {
		return answer{e: api.ErrArg}
	}
	old := p.globals[c.a]
	p.globals[c.a] = c.w
	return answer{w: old}
}

func (p *plain) start() answer {
	if len(p.threads) >= 8 {
		return answer{e: api.ErrLocksMuch}
	}
	n := len(p.threads) + 1
	p.threads[n] = &plainThread{}
	return answer{n: n}
}

func (p *plain) end(c call) answer {
	t := p.threads[c.a]
	if t == nil {
		return answer{e: api.ErrLocksNone}
	}
	if !t.goes() {
		return answer{e: api.ErrLocksNot}
	}
	t.ended.Ended = true
	if t.ended.Err = c.err; c.err == api.OK {
		t.ended.Word = c.w
	}
	var out []int
	for n := 1; n <= len(p.threads); n++ {
		if o := p.threads[n]; o.forEnd == c.a {
			o.forEnd = 0
			out = append(out, n)
		}
	}
	for lock := 0; lock < len(p.holders); lock++ {
		if p.holders[lock] == c.a {
			if to := p.handOn(lock); to != 0 {
				out = append(out, to)
			}
		}
	}
	slices.Sort(out)
	return answer{l: out}
}

func (p *plain) join(thread, of int) answer {
	t, o := p.threads[thread], p.threads[of]
	switch {
	case t == nil || o == nil:
		return answer{e: api.ErrLocksNone}
	case !t.goes():
		return answer{e: api.ErrLocksNot}
	case t == o:
		return answer{e: api.ErrLocksSelf}
	case o.ended.Ended:
		return answer{w: o.ended.Word, now: true, e: o.ended.Err}
	}
	t.forEnd, t.since = of, p.moment
	return answer{}
}

func (p *plain) lock(c call) answer {
	t := p.threads[c.a]
	holder, ok := p.holders[c.b]
	switch {
	case t == nil || !ok:
		return answer{e: api.ErrLocksNone}
	case !t.goes():
		return answer{e: api.ErrLocksNot}
	case c.what == unlocking && holder != c.a:
		return answer{e: api.ErrLocksNot}
	case c.what == unlocking:
		return answer{n: p.handOn(c.b)}
	case holder == c.a:
		return answer{e: api.ErrLocksTwice}
	case holder == 0:
		p.holders[c.b] = c.a
		return answer{now: true}
	}
	t.forLock, t.since = c.b+1, p.moment
	return answer{}
}

func (p *plain) handOn(lock int) int {
	to := 0
	for n, t := range p.threads {
		if t.forLock == lock+1 && (to == 0 || t.since < p.threads[to].since) {
			to = n
		}
	}
	if to != 0 {
		p.threads[to].forLock = 0
	}
	p.holders[lock] = to
	return to
}

// stuck are those who come to themselves, going from each to the one it waits for; all ways are worked out, longer and longer ones.
func (p *plain) stuck() []int {
	var way [9][9]bool
	for n, t := range p.threads {
		if t.forEnd != 0 {
			way[n][t.forEnd] = true
		} else if t.forLock != 0 {
			way[n][p.holders[t.forLock-1]] = true
		}
	}
	for through := range way {
		for from := range way {
			for to := range way {
				way[from][to] = way[from][to] || way[from][through] && way[through][to]
			}
		}
	}
	var out []int
	for n := range way {
		if n > 0 && way[n][n] {
			out = append(out, n)
		}
	}
	return out
}

// seen is as that of a book.
func (p *plain) seen() sight {
	s := sight{threads: len(p.threads)}
	copy(s.stuck[:], p.stuck())
	for i := range s.ended {
		if t := p.threads[i-1]; t != nil {
			s.waits[i], s.ended[i] = t.waits(), t.ended
		} else {
			s.endedErr[i] = api.ErrLocksNone
		}
	}
	for i := range s.holders {
		s.holders[i] = p.holders[i-1]
	}
	for i := range s.globals {
		if w, ok := p.globals[i-1]; ok {
			s.globals[i] = w
		} else {
			s.noGlobal[i] = api.ErrArg
		}
	}
	return s
}

// state is all that hangs on, as a text: what each waits for, and which of those who wait came first.
func (p *plain) state() string {
	var row []int
	for n := 1; n <= len(p.threads); n++ {
		if p.threads[n].forLock != 0 {
			row = append(row, n)
		}
	}
	slices.SortFunc(row, func(a, b int) int { return p.threads[a].since - p.threads[b].since })
	out := fmt.Sprint(p.holders, row)
	for n := 1; n <= len(p.threads); n++ {
		t := p.threads[n]
		out += fmt.Sprint(t.forEnd, t.forLock, t.ended)
	}
	return out
}

// script is a book's size and the calls that were made.
type script struct {
	locks, globals int
	calls          []call
}

// replayed is the book and the plain one behind the script.
func (s script) replayed(t *testing.T) (*locks.Book, *plain) {
	t.Helper()
	b, e := locks.New(s.locks, s.globals)
	if e != api.OK {
		t.Fatalf("New: %d", e)
	}
	p := newPlain(s.locks, s.globals)
	for _, c := range s.calls {
		made(b, c)
		p.made(c)
	}
	return b, p
}

// both makes a call on both, and holds the answers, and what can be seen then, against each other.
func both(t *testing.T, s script, b *locks.Book, p *plain, c call) answer {
	t.Helper()
	is, want := made(b, c), p.made(c)
	if !is.same(want) {
		t.Fatalf("%v, then %v: %v, not %v", s, c, is, want)
	}
	if is, want := seen(b), p.seen(); is != want {
		t.Fatalf("%v, then %v:\n%v\nnot\n%v", s, c, is, want)
	}
	return is
}

// allCalls are those with every number from one below to one beyond.
func allCalls(threads, locksOf int) []call {
	out := []call{{what: starting}}
	for a := 0; a <= threads+1; a++ {
		out = append(out, call{what: ending, a: a, w: 85}, call{what: ending, a: a, w: 93, err: api.ErrVMCall})
		for of := 0; of <= threads+1; of++ {
			out = append(out, call{what: joining, a: a, b: of})
		}
		for lock := -1; lock <= locksOf; lock++ {
			out = append(out, call{what: locking, a: a, b: lock}, call{what: unlocking, a: a, b: lock})
		}
	}
	return out
}

// TestEveryCallInEverySmallState: all states that so many threads and locks can come to (of four threads and three locks the first 3000), and each call there; those that are refused first, one behind the other, on one book, as they change nothing.
func TestEveryCallInEverySmallState(t *testing.T) {
	for _, size := range []struct{ threads, locks, states int }{{2, 2, 91}, {3, 1, 341}, {3, 2, 1755}, {4, 1, 4773}, {4, 3, 3000}} {
		if testing.Short() && size.threads > 3 {
			continue
		}
		most := 10000
		if size.locks == 3 {
			most = size.states
		}
		if states := walk(t, size.threads, size.locks, most); states != size.states {
			t.Errorf("%d states of %d threads, %d locks, not %d", states, size.threads, size.locks, size.states)
		}
	}
}

// walk comes to the states in the order of their distance, to no more than most of them: to how many.
func walk(t *testing.T, threads, locksOf, most int) int {
	t.Helper()
	first := script{locks: locksOf}
	known := map[string]bool{newPlain(locksOf, 0).state(): true}
	states := []script{first}
	for at := 0; at < len(states); at++ {
		s := states[at]
		b, p := s.replayed(t)
		var further []call
		for _, c := range allCalls(threads, locksOf) {
			if c.what == starting && len(p.threads) == threads {
				continue
			}
			if !p.copied().made(c).taken() {
				both(t, s, b, p, c)
				continue
			}
			further = append(further, c)
		}
		for _, c := range further {
			b, p := s.replayed(t)
			both(t, s, b, p, c)
			if key := p.state(); !known[key] && len(states) < most {
				known[key] = true
				states = append(states, script{locks: locksOf, calls: append(slices.Clone(s.calls), c)})
			}
		}
	}
	return len(states)
}

// drawn is a call with numbers of the book, now and then of none; mostly of a thread that goes, and of a lock that it holds, if it hands one on.
func drawn(r *rand.Rand, s script, b *locks.Book) call {
	threads := max(b.Threads(), 1)
	c := call{what: what(r.Intn(int(whats))), a: 1 + r.Intn(threads), w: api.Word(r.Intn(200))}
	for range 3 {
		if x, _ := b.Ended(c.a); x.Ended || b.Waits(c.a) {
			c.a = 1 + r.Intn(threads)
		}
	}
	if c.what == ending && r.Intn(3) > 0 || c.what == setting && r.Intn(2) > 0 {
		c.what = locking + what(r.Intn(2))
	}
	switch c.what {
	case joining:
		c.b = 1 + r.Intn(threads)
	case locking, unlocking:
		c.b = r.Intn(max(s.locks, 1))
		for lock := range s.locks {
			if c.what == unlocking && b.Holder(lock) == c.a && r.Intn(2) == 0 {
				c.b = lock
			}
		}
	case setting:
		c.a = r.Intn(max(s.globals, 1))
	}
	if r.Intn(3) == 0 {
		c.err = api.Errno(r.Intn(300))
	}
	if r.Intn(20) == 0 {
		c.a = r.Intn(12) - 2
	}
	if r.Intn(20) == 0 {
		c.b = r.Intn(12) - 2
	}
	return c
}

// drawnScript is of any size; most are small, so that threads meet.
func drawnScript(r *rand.Rand) script {
	s := script{locks: r.Intn(4), globals: r.Intn(3)}
	if r.Intn(4) == 0 {
		s.locks, s.globals = r.Intn(9), r.Intn(65)
	}
	return s
}

func TestDrawnScripts(t *testing.T) {
	rounds := 4000
	if testing.Short() {
		rounds = 400
	}
	var handed, several, rings, failed int
	for seed := range rounds {
		r := rand.New(rand.NewSource(int64(seed)))
		s := drawnScript(r)
		b, p := s.replayed(t)
		for range r.Intn(9) {
			s.calls = append(s.calls, call{what: starting})
			both(t, s, b, p, call{what: starting})
		}
		for range 60 {
			c := drawn(r, s, b)
			a := both(t, s, b, p, c)
			s.calls = append(s.calls, c)
			if c.what == unlocking && a.n != 0 {
				handed++
			}
			if len(a.l) > 1 {
				several++
			}
			if a.now && a.e != api.OK {
				failed++
			}
		}
		if len(b.Stuck()) > 2 {
			rings++
		}
	}
	if handed < rounds/3 || several < rounds/20 || rings < rounds/30 || failed < rounds/10 {
		t.Errorf("%d handed on, %d ends let several go, %d rings, %d joins of a failed one, of %d", handed, several, rings, failed, rounds)
	}
}

func FuzzScripts(f *testing.F) {
	f.Add([]byte{2, 1, 0, 0, 0, 0, 0, 0, 3, 1, 0, 3, 2, 1, 3, 1, 1, 3, 2, 0})
	f.Add([]byte{1, 0, 0, 0, 0, 0, 0, 0, 2, 1, 2, 1, 2, 5, 2, 1, 2})
	f.Fuzz(func(t *testing.T, data []byte) {
		if len(data) < 2 || len(data) > 400 {
			return
		}
		s := script{locks: int(data[0]) % 9, globals: int(data[1]) % 65}
		b, p := s.replayed(t)
		for data = data[2:]; len(data) >= 3; data = data[3:] {
			c := call{what: what(data[0]) % whats, a: int(int8(data[1])), b: int(int8(data[2])), w: api.Word(data[2])}
			if data[2]%3 == 0 {
				c.err = api.Errno(data[2])
			}
			both(t, s, b, p, c)
			s.calls = append(s.calls, c)
		}
	})
}
