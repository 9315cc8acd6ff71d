package free_test

import (
	"encoding/binary"
	"slices"
	"strings"
	"testing"

	"dapple/api"
	"dapple/free"
	"dapple/model"
)

// play is a model whose threads have gone in some order: who finds no free cell is refused at once, as there are only so many.
type play struct {
	*model.Model
	cells, first int
	threads      int
	made         int // cells
	last         api.Event
	heard        [api.MaxThreads + 1][]byte // what each thread's steps were told: what it does next hangs on nothing else
	rows         []byte                     // who began to wait for a lock, in order
}

func newPlay(t testing.TB, c api.Config, program api.Code, procs []int) *play {
	t.Helper()
	m, e := model.New(c.Locks, program)
	if e != api.OK {
		t.Fatal(e)
	}
	p := &play{Model: m, cells: c.Cells, first: len(procs), threads: len(procs)}
	for _, proc := range procs {
		if _, e := m.Start(proc); e != api.OK {
			t.Fatal(proc, e)
		}
	}
	return p
}

// goes lets a thread go a step; false, if it can't.
func (p *play) goes(thread int) bool {
	if p.made == p.cells {
		p.Refuse(thread)
	}
	x, e := p.Step(thread)
	if e != api.OK {
		return false
	}
	p.last = x
	switch x.What {
	case api.StepAlloc:
		p.made++
	case api.StepSpawn:
		p.threads = max(p.threads, x.Other)
	case api.StepWaitLock:
		p.rows = numbers(p.rows, uint64(thread), uint64(x.Other))
	}
	did := uint64(0)
	if x.Yes {
		did = 1
	}
	p.heard[thread] = numbers(p.heard[thread], uint64(x.What), uint64(x.Cell), uint64(x.Field), uint64(x.Old), uint64(x.New), uint64(x.Other), did, uint64(x.Err))
	return true
}

// numbers are bytes with these numbers behind them.
func numbers(to []byte, l ...uint64) []byte {
	for _, n := range l {
		to = binary.AppendUvarint(to, n)
	}
	return to
}

// moment is all on which it hangs what can come next.
func (p *play) moment() string {
	var b []byte
	for _, l := range append(p.heard[:], p.rows) {
		b = append(numbers(b, uint64(len(l))), l...)
	}
	for _, c := range p.Model.Heap() {
		b = numbers(b, uint64(c.Kind), uint64(c.A), uint64(c.B))
	}
	for _, w := range p.Model.Globals() {
		b = numbers(b, uint64(w))
	}
	return string(b)
}

// isOwn tells whether the last step is nobody else's business: whoever goes ahead of it or behind it, it comes to the same, but for
// cells' numbers and for who waits and is woken again. (A closure is never changed; who has ended stays so.)
func (p *play) isOwn() bool {
	switch x := p.last; x.What {
	case api.StepAlloc:
		return p.cells >= roomy
	case api.StepLoad:
		return p.Model.Heap()[x.Cell].Kind == api.KindClosure
	case api.StepJoin:
		return x.Err != api.ErrLocksNone
	case api.StepWaitJoin, api.StepBreath:
		return true
	}
	return false
}

// roomy is how many cells are enough for each program of these tests.
const roomy = 100

// outcome is what it has come to, where nobody can go a step any more.
func (p *play) outcome(t testing.TB) string {
	t.Helper()
	o := free.Outcome{Globals: p.Model.Globals(), Heap: p.Model.Heap(), Threads: p.threads}
	for n := 1; n <= p.threads; n++ {
		end, _ := p.Ended(n)
		if !end.Ended {
			return stuck
		}
		if n <= p.first {
			o.Ended = append(o.Ended, end)
		}
	}
	return look(t, o)
}

// stuck is the outcome of one that has none.
const stuck = "stuck"

// orders are all that the threads of one program can come to, whoever is picked.
type orders struct {
	testing.TB
	config   api.Config
	program  api.Code
	procs    []int
	moments  map[string]bool
	outcomes map[string]bool
}

// allOrders goes through all orders of steps.
func allOrders(t testing.TB, c api.Config, program api.Code, procs ...int) *orders {
	t.Helper()
	x := &orders{TB: t, config: c, program: program, procs: procs, moments: map[string]bool{}, outcomes: map[string]bool{}}
	x.from(x.played(nil), nil)
	return x
}

// played is a new play that has gone so; nil, if a thread that is picked can't go a step.
func (x *orders) played(picks []int) *play {
	x.Helper()
	p := newPlay(x, x.config, x.program, x.procs)
	for _, thread := range picks {
		if !p.goes(thread) {
			return nil
		}
	}
	return p
}

// from goes on from where a play has come to by some picks.
func (x *orders) from(p *play, picks []int) {
	x.Helper()
	m := p.moment()
	if x.moments[m] {
		return
	}
	x.moments[m] = true
	var next []*play
	var ways [][]int
	for n := 1; n <= p.threads; n++ {
		way := append(slices.Clone(picks), n)
		q := x.played(way)
		if q == nil {
			continue
		}
		next, ways = append(next, q), append(ways, way)
		if q.isOwn() {
			next, ways = next[len(next)-1:], ways[len(ways)-1:]
			break
		}
	}
	if len(next) == 0 {
		x.outcomes[p.outcome(x)] = true
	}
	for i, q := range next {
		x.from(q, ways[i])
	}
}

// has sees that a run comes to one of these outcomes; which one.
func (x *orders) has() string {
	x.Helper()
	o, e := free.Run(x.config, x.program, x.procs...)
	text := stuck
	switch e {
	case api.OK:
		text = look(x, o)
	case api.ErrFreeStuck:
	default:
		x.Fatal(e)
	}
	if !x.outcomes[text] {
		var l []string
		for s := range x.outcomes {
			l = append(l, s)
		}
		x.Fatalf("%s is none of\n%s", text, strings.Join(l, "\n"))
	}
	return text
}
