package shake_test

import (
	"fmt"
	"math/rand"
	"slices"
	"testing"

	"dapple/api"
	"dapple/shake"
)

// The chapter once more, in the plainest way: kept is nothing but the row of calls that were taken, and all is looked for in it.

type what int

const (
	bearing what = iota
	beginning
	asking
	laying
	ending
	whats
)

// call is one of the five calls that change something, with its number.
type call struct {
	what what
	n    int
}

func (c call) String() string {
	switch c.what {
	case bearing:
		return fmt.Sprintf("Born(%d)", c.n)
	case beginning:
		return "Begin"
	case asking:
		return fmt.Sprintf("Ask(%d)", c.n)
	case laying:
		return fmt.Sprintf("Lay(%d)", c.n)
	}
	return "End"
}

// answer is what a call gives; of all but Born the number is 0.
type answer struct {
	n int
	e api.Errno
}

func made(s *shake.Shake, c call) answer {
	switch c.what {
	case bearing:
		n, e := s.Born(c.n)
		return answer{n, e}
	case beginning:
		return answer{0, s.Begin()}
	case asking:
		return answer{0, s.Ask(c.n)}
	case laying:
		return answer{0, s.Lay(c.n)}
	}
	return answer{0, s.End()}
}

// plain is the row of calls that were taken.
type plain []call

// births are the places of those by which threads were born: the first one's is that of thread 1.
func (p plain) births() []int {
	var out []int
	for i, c := range p {
		if c.what == bearing {
			out = append(out, i)
		}
	}
	return out
}

// begun is the place of the Begin of the cycle that it is in; -1: it is in none.
func (p plain) begun() int {
	for i, c := range slices.Backward(p) {
		if c.what == ending {
			return -1
		}
		if c.what == beginning {
			return i
		}
	}
	return -1
}

func (p plain) isThread(n int) bool { return n >= 1 && n <= len(p.births()) }

func (p plain) scanned(n int) bool {
	if !p.isThread(n) {
		return false
	}
	begun := p.begun()
	if begun < 0 || slices.Contains(p[begun:], call{laying, n}) {
		return true
	}
	birth := p.births()[n-1]
	if birth < begun {
		return false
	}
	parent := p[birth].n
	return parent == 0 || p[:birth].scanned(parent)
}

func (p plain) asked(n int) bool {
	begun := p.begun()
	return begun >= 0 && slices.Contains(p[begun:], call{asking, n}) && !slices.Contains(p[begun:], call{laying, n})
}

func (p plain) left() int {
	for n := 1; n <= len(p.births()); n++ {
		if !p.scanned(n) {
			return n
		}
	}
	return 0
}

// answers is what the chapter says that a call gives.
func (p plain) answers(c call) answer {
	wrong := false
	switch c.what {
	case bearing:
		if len(p.births()) == 8 {
			return answer{0, 2}
		}
		if c.n == 0 || p.isThread(c.n) {
			return answer{len(p.births()) + 1, 0}
		}
		wrong = true
	case beginning:
		wrong = p.begun() >= 0
	case asking:
		wrong = !p.isThread(c.n) || p.scanned(c.n) || p.asked(c.n)
	case laying:
		wrong = !p.isThread(c.n) || p.scanned(c.n)
	case ending:
		wrong = p.begun() < 0 || p.left() != 0
	}
	if wrong {
		return answer{0, 140}
	}
	return answer{}
}

// behind is the row behind a call: longer by it, if it is taken.
func (p plain) behind(c call) plain {
	if p.answers(c).e != 0 {
		return p
	}
	return append(slices.Clone(p), c)
}

// picture is all that there is at one moment, of threads by their numbers.
type picture struct {
	threads        int
	inCycle        bool
	scanned, asked [9]bool
}

func (p plain) picture() picture {
	out := picture{threads: len(p.births()), inCycle: p.begun() >= 0}
	for n := range 9 {
		out.scanned[n], out.asked[n] = p.scanned(n), p.asked(n)
	}
	return out
}

// stands: what a Shake tells of itself is what there is behind the row p.
func stands(t *testing.T, s *shake.Shake, p plain) {
	t.Helper()
	for _, n := range numbers() {
		if is, want := s.Scanned(n), p.scanned(n); is != want {
			t.Fatalf("%v: Scanned(%d): %v, not %v", p, n, is, want)
		}
		if is, want := s.Asked(n), p.asked(n); is != want {
			t.Fatalf("%v: Asked(%d): %v, not %v", p, n, is, want)
		}
	}
	if is, want := s.Left(), p.left(); is != want {
		t.Fatalf("%v: Left: %d, not %d", p, is, want)
	}
}

// plainRow makes a row of calls of a new Shake, and holds each answer, and what is there then, against the chapter.
func plainRow(t *testing.T, calls []call) plain {
	t.Helper()
	s := shake.New()
	var p plain
	stands(t, s, p)
	for i, c := range calls {
		if is, want := made(s, c), p.answers(c); is != want {
			t.Fatalf("%v: %v, not %v", calls[:i+1], is, want)
		}
		p = p.behind(c)
		stands(t, s, p)
	}
	return p
}

// allCalls are all calls with all numbers.
func allCalls() []call {
	out := []call{{beginning, 0}, {ending, 0}}
	for _, n := range numbers() {
		out = append(out, call{bearing, n}, call{asking, n}, call{laying, n})
	}
	return out
}

// atEachPicture comes to whatever there can be, each on a shortest row of calls, and hands on the row with all calls that
// are taken there, and all that are refused.
func atEachPicture(do func(p plain, taken, refused []call)) (many int) {
	seen := map[picture]bool{plain(nil).picture(): true}
	work := []plain{nil}
	for len(work) > 0 {
		p := work[0]
		work = work[1:]
		var taken, refused []call
		for _, c := range allCalls() {
			if p.answers(c).e != 0 {
				refused = append(refused, c)
				continue
			}
			taken = append(taken, c)
			next := p.behind(c)
			if is := next.picture(); !seen[is] {
				seen[is] = true
				work = append(work, next)
			}
		}
		do(p, taken, refused)
	}
	return len(seen)
}

// replayed is a Shake behind a row of calls, each of which is taken.
func replayed(t *testing.T, p plain) *shake.Shake {
	t.Helper()
	s := shake.New()
	for _, c := range p {
		if is := made(s, c); is.e != api.OK {
			t.Fatalf("%v: %v: %v", p, c, is)
		}
	}
	return s
}

// TestAllThereCanBe: at each moment that there can be each call is made, behind all that are refused there, which change nothing.
func TestAllThereCanBe(t *testing.T) {
	calls := 0
	many := atEachPicture(func(p plain, taken, refused []call) {
		stands(t, replayed(t, p), p)
		for _, c := range taken {
			s := replayed(t, p)
			for _, wrong := range refused {
				calls++
				if is := made(s, wrong); is != p.answers(wrong) {
					t.Fatalf("%v, %v: %v, not %v", p, wrong, is, p.answers(wrong))
				}
			}
			if is := made(s, c); is != p.answers(c) {
				t.Fatalf("%v, %v: %v, not %v", p, c, is, p.answers(c))
			}
			stands(t, s, p.behind(c))
		}
	})
	// In a cycle each of up to eight threads is one of three: scanned, asked, neither. Out of one only how many there are is
	// to be told. And in none of all is every call refused: Begin, End, or a Lay is not.
	if many != (19683-1)/2+9 || calls < many {
		t.Errorf("%d are come to, with %d calls that are refused", many, calls)
	}
}

// drawnCall is a call that may well be right, behind the row p.
func drawnCall(r *rand.Rand, p plain) call {
	threads := len(p.births())
	if r.Intn(12) == 0 {
		l := numbers()
		return call{what(r.Intn(int(whats))), l[r.Intn(len(l))]}
	}
	switch w := what(r.Intn(int(whats))); w {
	case bearing:
		// Seldom, so that cycles come and go while there are few.
		if r.Intn(3) > 0 {
			return call{asking, r.Intn(threads+1) + 1}
		}
		return call{w, r.Intn(threads + 1)}
	case beginning, ending:
		return call{w, 0}
	default:
		return call{w, r.Intn(threads+1) + 1}
	}
}

// drawnRow is a row of calls, of which many are right.
func drawnRow(r *rand.Rand, many int) []call {
	var p plain
	var out []call
	for range many {
		c := drawnCall(r, p)
		p = p.behind(c)
		out = append(out, c)
	}
	return out
}

func TestDrawnRows(t *testing.T) {
	r := rand.New(rand.NewSource(141))
	cycles := 0
	for range 300 {
		p := plainRow(t, drawnRow(r, 150))
		for _, c := range p {
			if c.what == ending {
				cycles++
			}
		}
	}
	if cycles < 600 {
		t.Errorf("only %d whole cycles", cycles)
	}
}

// TestWhicheverWayItCameThere: two Shakes that came to one picture on other ways, by calls that were refused and whole cycles ahead, answer alike from then on.
func TestWhicheverWayItCameThere(t *testing.T) {
	r := rand.New(rand.NewSource(142))
	met := map[picture]plain{}
	pairs := 0
	for range 1500 {
		s := shake.New()
		var p plain
		for _, c := range drawnRow(r, 60) {
			made(s, c)
			p = p.behind(c)
		}
		is := p.picture()
		other, ok := met[is]
		met[is] = p
		if !ok || slices.Equal(other, p) {
			continue
		}
		pairs++
		o := replayed(t, other)
		for range 40 {
			c := drawnCall(r, p)
			if x, y := made(s, c), made(o, c); x != y || told(s) != told(o) {
				t.Fatalf("behind %v and %v, %v: %v and %v", p, other, c, x, y)
			}
			p = p.behind(c)
		}
	}
	if pairs < 200 {
		t.Errorf("only %d pairs", pairs)
	}
}

func FuzzPlain(f *testing.F) {
	f.Add([]byte{0x01, 0x02, 0x20, 0x42, 0x42, 0x02, 0x62, 0x63, 0x64, 0x80})
	f.Add([]byte{0x20, 0x80, 0x01, 0x01, 0x01, 0x01, 0x01, 0x01, 0x01, 0x01, 0x0a, 0x20})
	f.Fuzz(func(t *testing.T, bytes []byte) {
		var calls []call
		for _, b := range bytes[:min(len(bytes), 200)] {
			calls = append(calls, call{what(b>>5) % whats, int(b&31) - 1})
		}
		plainRow(t, calls)
	})
}
