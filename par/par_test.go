package par_test

import (
	"fmt"
	"slices"
	"strconv"
	"strings"
	"testing"

	"dapple/api"
	"dapple/par"
)

// bits is the word of a tag and a number by chapter 1, or what no word is.
func bits(t api.Tag, n int64) api.Word { return api.Word(n)<<4 | api.Word(t) }

// ref is the reference to a cell, or what looks like one.
func ref(n int) api.Word { return bits(api.TagRef, int64(n)) }

// wordOf reads a word: n, f, t, none; r3, s3, p3 are a reference, a symbol, a primitive, a number alone is one; x with hexadecimal digits is any bits.
func wordOf(s string) api.Word {
	for i, name := range []string{"n", "f", "t", "none"} {
		if s == name {
			return bits(api.TagNil+api.Tag(i), 0)
		}
	}
	if digits, ok := strings.CutPrefix(s, "x"); ok {
		n, err := strconv.ParseUint(digits, 16, 64)
		if err != nil {
			panic(err)
		}
		return api.Word(n)
	}
	tag, digits := api.TagInt, s
	switch s[0] {
	case 'r':
		tag, digits = api.TagRef, s[1:]
	case 's':
		tag, digits = api.TagSymbol, s[1:]
	case 'p':
		tag, digits = api.TagPrim, s[1:]
	}
	n, err := strconv.ParseInt(digits, 10, 64)
	if err != nil {
		panic(err)
	}
	return bits(tag, n)
}

// wordsOf reads words with blanks between.
func wordsOf(s string) []api.Word {
	var out []api.Word
	for _, f := range strings.Fields(s) {
		out = append(out, wordOf(f))
	}
	return out
}

// heapOf reads cells with commas between: "r2 n" is a pair, "box 5 n", "clo 0 r1", "free x0 r9" say their kinds, "free" alone has noughts; "grey" or "black" may stand ahead.
func heapOf(s string) []api.Cell {
	if strings.TrimSpace(s) == "" {
		return nil
	}
	var out []api.Cell
	for _, part := range strings.Split(s, ",") {
		out = append(out, cellOf(strings.Fields(part)))
	}
	return out
}

func cellOf(fields []string) api.Cell {
	c := api.Cell{Kind: api.KindPair}
	if slices.Equal(fields, []string{"free"}) {
		return api.Cell{}
	}
	for len(fields) > 2 {
		switch fields[0] {
		case "free":
			c.Kind = api.KindFree
		case "box":
			c.Kind = api.KindBox
		case "clo":
			c.Kind = api.KindClosure
		case "grey":
			c.Colour = api.Grey
		case "black":
			c.Colour = api.Black
		default:
			panic(fields[0])
		}
		fields = fields[1:]
	}
	c.A, c.B = wordOf(fields[0]), wordOf(fields[1])
	return c
}

// truths reads whether, cell by cell: a 1 is live, a 0 is not.
func truths(s string) []bool {
	out := make([]bool, len(s))
	for i := range s {
		out[i] = s[i] == '1'
	}
	return out
}

// told is a heap and roots for a message, cut where it is long.
func told(h []api.Cell, roots []api.Word) string {
	s := fmt.Sprintf("%x of %x", roots, h)
	return s[:min(len(s), 400)]
}

// cut is what a message says of anything.
func cut(l any) string {
	s := fmt.Sprint(l)
	return s[:min(len(s), 400)]
}

// eachMany hands on every number of workers that may be.
func eachMany(do func(workers int)) {
	for workers := 1; workers <= api.MaxWorkers; workers++ {
		do(workers)
	}
}

// count is how many are true.
func count(l []bool) int {
	n := 0
	for _, is := range l {
		if is {
			n++
		}
	}
	return n
}

// marksBy holds Mark by so many workers against the live ones, and each of its sums.
func marksBy(t *testing.T, h []api.Cell, workers int, roots []api.Word, want []bool) {
	t.Helper()
	live, s, e := par.Mark(h, workers, roots...)
	if e != api.OK || !slices.Equal(live, want) {
		t.Fatalf("Mark by %d, %s: %s, %d, not %s", workers, told(h, roots), cut(live), e, cut(want))
	}
	if n := count(want); s.Greyed != n || s.Scanned != n || s.Freed != 0 {
		t.Fatalf("Mark by %d, %s: %+v, of %d that are live", workers, told(h, roots), s, n)
	}
}

// sweepsBy holds Sweep by so many workers against the heap behind it, what is freed, and each of its sums.
func sweepsBy(t *testing.T, h []api.Cell, live []bool, workers int, want []api.Cell, wantFreed []int) {
	t.Helper()
	heap, freed, s, e := par.Sweep(h, live, workers)
	if e != api.OK || !slices.Equal(heap, want) || !slices.Equal(freed, wantFreed) {
		t.Fatalf("Sweep by %d, %s, %s: %s, %s, %d, not %s, %s", workers, told(h, nil), cut(live), told(heap, nil), cut(freed), e, told(want, nil), cut(wantFreed))
	}
	if s.Greyed != 0 || s.Scanned != 0 || s.Freed != len(wantFreed) {
		t.Fatalf("Sweep by %d, %s, %s: %+v, of %d that are freed", workers, told(h, nil), cut(live), s, len(wantFreed))
	}
}

// collectsBy holds Collect by so many workers against the heap behind it, what is freed, and each of its sums.
func collectsBy(t *testing.T, h []api.Cell, workers int, roots []api.Word, live int, want []api.Cell, wantFreed []int) {
	t.Helper()
	heap, freed, s, e := par.Collect(h, workers, roots...)
	if e != api.OK || !slices.Equal(heap, want) || !slices.Equal(freed, wantFreed) {
		t.Fatalf("Collect by %d, %s: %s, %s, %d, not %s, %s", workers, told(h, roots), told(heap, nil), cut(freed), e, told(want, nil), cut(wantFreed))
	}
	if s.Greyed != live || s.Scanned != live || s.Freed != len(wantFreed) {
		t.Fatalf("Collect by %d, %s: %+v, of %d that are live and %d that are freed", workers, told(h, roots), s, live, len(wantFreed))
	}
}

// does holds all three calls, by every number of workers: the live ones by truths, the heap behind it as heapOf reads it.
func does(t *testing.T, heap, roots, live, behind string, freed ...int) {
	t.Helper()
	h, w, l, b := heapOf(heap), wordsOf(roots), truths(live), heapOf(behind)
	eachMany(func(workers int) {
		marksBy(t, h, workers, w, l)
		sweepsBy(t, h, l, workers, b, freed)
		collectsBy(t, h, workers, w, count(l), b, freed)
	})
}

func TestNumbersOfErrors(t *testing.T) {
	if api.OK != 0 || api.ErrArg != 1 || api.ErrParForm != 230 || api.MaxWorkers != 16 {
		t.Errorf("%d, %d, %d, %d", api.OK, api.ErrArg, api.ErrParForm, api.MaxWorkers)
	}
}

// example is the chapter's heap.
const example = "r2 n, n n, r0 r3, free"

func TestFirstExample(t *testing.T) {
	does(t, example, "r0", "1010", "r2 n, free, r0 r3, free", 1)
	for _, workers := range []int{1, 16} {
		if _, _, s, _ := par.Collect(heapOf(example), workers, ref(0)); s != (api.Sums{Greyed: 2, Scanned: 2, Freed: 1}) {
			t.Errorf("by %d: %+v", workers, s)
		}
	}
}

func TestSecondExample(t *testing.T) {
	for _, workers := range []int{0, 17} {
		if l, s, e := par.Mark(heapOf(example), workers, ref(0)); e != api.ErrArg || len(l) > 0 || s != (api.Sums{}) {
			t.Errorf("by %d: %v, %v, %d", workers, l, s, e)
		}
	}
	if l, s, e := par.Mark(heapOf(example), 1, ref(4)); e != api.ErrParForm || len(l) > 0 || s != (api.Sums{}) {
		t.Errorf("%v, %v, %d", l, s, e)
	}
	if h, l, s, e := par.Sweep(heapOf(example), make([]bool, 3), 1); e != api.ErrParForm || len(h) > 0 || len(l) > 0 || s != (api.Sums{}) {
		t.Errorf("%v, %v, %v, %d", h, l, s, e)
	}
}

func TestThirdExample(t *testing.T) {
	does(t, example, "", "0000", "free, free, free, free", 0, 1, 2)
}

// TestNoCells: nothing is live, and nothing is freed; a list that is nil and one that is empty are the same.
func TestNoCells(t *testing.T) {
	does(t, "", "", "", "")
	does(t, "", "n 5 f t none s3 p1", "", "")
	eachMany(func(workers int) {
		marksBy(t, []api.Cell{}, workers, []api.Word{}, nil)
		sweepsBy(t, []api.Cell{}, nil, workers, nil, nil)
		sweepsBy(t, nil, []bool{}, workers, nil, nil)
		collectsBy(t, []api.Cell{}, workers, nil, 0, nil, nil)
	})
}

// TestOneCell: of each kind, named and not, by itself too.
func TestOneCell(t *testing.T) {
	for _, kind := range []string{"", "box ", "clo "} {
		for _, c := range []string{"n n", "r0 n", "5 r0", "r0 r0", "s0 p22"} {
			does(t, kind+c, "r0", "1", kind+c)
			does(t, kind+c, "", "0", "free", 0)
			does(t, kind+c, "n", "0", "free", 0)
		}
	}
	does(t, "free", "", "0", "free")
	does(t, "free", "r0", "0", "free")
	does(t, "free r0 xffffffffffffffff", "r0", "0", "free")
}

// TestRings: they are live, if one of them is named, and are freed, though they name each other.
func TestRings(t *testing.T) {
	const rings = "r1 n, n r2, r0 r0, r4 n, r3 n, r5 r5"
	does(t, rings, "r0", "111000", "r1 n, n r2, r0 r0, free, free, free", 3, 4, 5)
	does(t, rings, "r2", "111000", "r1 n, n r2, r0 r0, free, free, free", 3, 4, 5)
	does(t, rings, "r4", "000110", "free, free, free, r4 n, r3 n, free", 0, 1, 2, 5)
	does(t, rings, "r5 r1", "111001", "r1 n, n r2, r0 r0, free, free, r5 r5", 3, 4)
	does(t, rings, "", "000000", "free, free, free, free, free, free", 0, 1, 2, 3, 4, 5)
	does(t, rings, "r3 r5 r0", "111111", rings)
}

// TestDeadNameLive: what is dead keeps nothing live, and what is live is not lost by what is dead.
func TestDeadNameLive(t *testing.T) {
	does(t, "r1 n, n n, r0 r3, r1 r2", "r0", "1100", "r1 n, n n, free, free", 2, 3)
}

// TestManyWays: what is reached on many ways is grey once.
func TestManyWays(t *testing.T) {
	does(t, "r1 r1, r2 r2, r3 r3, r3 r0", "r0 r1 r2 r3 r0", "1111", "r1 r1, r2 r2, r3 r3, r3 r0")
	does(t, "r1 r2, r3 r4, r4 r3, r5 n, n r5, n n, r5 r5", "r0", "1111110", "r1 r2, r3 r4, r4 r3, r5 n, n r5, n n, free", 6)
}

// TestFreeCells: what words name may be free: it is not live, and nothing is reached over it, whatever is left in it.
func TestFreeCells(t *testing.T) {
	does(t, "r1 n, free r2 r2, n n", "r0", "100", "r1 n, free, free", 2)
	does(t, "r1 n, free r2 r2, n n", "r1", "000", "free, free, free", 0, 2)
	does(t, "r1 r2, free r2 r2, n r1", "r1 r0 r1", "101", "r1 r2, free, n r1")
	does(t, "free r9 x0, free, grey free n n, black free r0 r0", "r0 r1 r2 r3", "0000", "free, free, free, free")
}

// TestRoots: words that are no references name nothing; the same one may stand there twice.
func TestRoots(t *testing.T) {
	const three = "n n, r0 n, n n"
	does(t, three, "n f t none 0 2 -1 s1 s2147483647 p1 p22", "000", "free, free, free", 0, 1, 2)
	does(t, three, "n r1 2", "110", "n n, r0 n, free", 2)
	does(t, three, "r1 r1", "110", "n n, r0 n, free", 2)
	does(t, three, "r2 r2 r2 r0 r2", "101", "n n, free, n n", 1)
	does(t, three, "r2 r1", "111", three)
}

// TestKinds: of boxes and closures both words are looked into, as of pairs; their kinds stay.
func TestKinds(t *testing.T) {
	does(t, "box r1 n, clo 0 r2, box n r3, clo r4 n, n n, box n n, clo 0 n, n n", "r0", "11111000", "box r1 n, clo 0 r2, box n r3, clo r4 n, n n, free, free, free", 5, 6, 7)
}

// TestNumbersAreNoCells: a word whose number is that of a cell names it only if it is a reference.
func TestNumbersAreNoCells(t *testing.T) {
	does(t, "1 s1, n n, p1 2, n n", "r0 2 s3", "1000", "1 s1, free, free, free", 1, 2, 3)
}

// TestColoursDoNotMatter: each heap of three with each three colours is marked and swept as a white one, and all is white behind it.
func TestColoursDoNotMatter(t *testing.T) {
	for n := range 81 {
		h := heapOf("r2 n, n n, box r0 r3, free r1 n")
		for i := range h {
			h[i].Colour = api.Colour(n % 3)
			n /= 3
		}
		for _, workers := range []int{1, 2, 16} {
			behind := heapOf("r2 n, free, box r0 r3, free")
			marksBy(t, h, workers, wordsOf("r0"), truths("1010"))
			sweepsBy(t, h, truths("1010"), workers, behind, []int{1})
			collectsBy(t, h, workers, wordsOf("r0"), 2, behind, []int{1})
		}
	}
}

// TestSweepTakesLiveAsItIsSaid: what is said to be live stays, whether anything reaches it or not; what it names is freed, if that is not.
func TestSweepTakesLiveAsItIsSaid(t *testing.T) {
	h := heapOf("black r1 r2, grey box r0 n, clo 0 r1, free r0 x0, n n")
	cells := heapOf("r1 r2, box r0 n, clo 0 r1, free, n n")
	for n := range 32 {
		live := truths(fmt.Sprintf("%05b", n))
		if live[3] {
			continue
		}
		want, freed := slices.Clone(cells), []int(nil)
		for i := range live {
			if !live[i] {
				want[i] = api.Cell{}
				if i != 3 {
					freed = append(freed, i)
				}
			}
		}
		eachMany(func(workers int) { sweepsBy(t, h, live, workers, want, freed) })
	}
}
