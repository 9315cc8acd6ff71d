package words_test

import (
	"math/big"
	"testing"

	"dapple/api"
	"dapple/words"
)

// operation is one of the five, and what it comes to by numbers without bounds.
type operation struct {
	name    string
	do      func(a, b api.Word) (api.Word, api.Errno)
	plain   func(z, a, b *big.Int) *big.Int
	divides bool
}

func operations() []operation {
	return []operation{
		{"Add", words.Add, (*big.Int).Add, false},
		{"Sub", words.Sub, (*big.Int).Sub, false},
		{"Mul", words.Mul, (*big.Int).Mul, false},
		{"Quo", words.Quo, (*big.Int).Quo, true},
		{"Rem", words.Rem, (*big.Int).Rem, true},
	}
}

// operands are numbers of TagInt: small ones, the edges, those whose products come to the edges or wrap round 64 bits, and a fixed row of mixed ones.
func operands() []int64 {
	out := []int64{
		-9, -7, -3, -2, -1, 0, 1, 2, 3, 6, 7, 9,
		leastInt, leastInt + 1, leastInt / 2, leastInt/2 - 1, greatestInt, greatestInt - 1, greatestInt / 2, greatestInt/2 + 1,
		1 << 29, -1 << 29, 1 << 30, -1 << 30, 1<<30 - 1, 1<<29 + 1,
		1 << 32, -1 << 32, 1<<32 + 1, 1 << 31, 1 << 33, 1<<33 + 5, 1 << 40, -1 << 40, 1 << 58, -1 << 58, 1<<58 + 1,
		16, 32, -32, 64, 179951, 3203431780337,
	}
	mixed := uint64(1)
	for range 40 {
		mixed = mixed*6364136223846793005 + 1442695040888963407
		out = append(out, int64(mixed)>>5, int64(mixed)>>34)
	}
	return out
}

func number(t *testing.T, n int64) api.Word {
	t.Helper()
	w, e := words.Int(n)
	if e != api.OK {
		t.Fatalf("Int(%d): %d", n, e)
	}
	return w
}

// wanted is what an operation on two numbers is to answer.
func wanted(op operation, a, b int64) (api.Word, api.Errno) {
	if op.divides && b == 0 {
		return 0, api.ErrWordZero
	}
	n := op.plain(new(big.Int), big.NewInt(a), big.NewInt(b))
	if n.Cmp(big.NewInt(leastInt)) < 0 || n.Cmp(big.NewInt(greatestInt)) > 0 {
		return 0, api.ErrWordOver
	}
	return laid(api.TagInt, n.Int64()), api.OK
}

func TestOperationsOnAllPairs(t *testing.T) {
	for _, op := range operations() {
		for _, a := range operands() {
			for _, b := range operands() {
				want, wantErr := wanted(op, a, b)
				if w, e := op.do(number(t, a), number(t, b)); w != want || e != wantErr {
					t.Errorf("%s(%d, %d): %x, %d, want %x, %d", op.name, a, b, w, e, want, wantErr)
				}
			}
		}
	}
}

func TestOperationsAtEdges(t *testing.T) {
	const over, zero = api.ErrWordOver, api.ErrWordZero
	for _, c := range []struct {
		name string
		do   func(a, b api.Word) (api.Word, api.Errno)
		a, b int64
		want int64
		e    api.Errno
	}{
		{"Add", words.Add, greatestInt, 0, greatestInt, 0},
		{"Add", words.Add, greatestInt, 1, 0, over},
		{"Add", words.Add, greatestInt, greatestInt, 0, over},
		{"Add", words.Add, leastInt, -1, 0, over},
		{"Add", words.Add, leastInt, leastInt, 0, over},
		{"Add", words.Add, leastInt, greatestInt, -1, 0},
		{"Sub", words.Sub, leastInt, 0, leastInt, 0},
		{"Sub", words.Sub, leastInt, 1, 0, over},
		{"Sub", words.Sub, greatestInt, -1, 0, over},
		{"Sub", words.Sub, 0, leastInt, 0, over},
		{"Sub", words.Sub, -1, leastInt, greatestInt, 0},
		{"Sub", words.Sub, leastInt, leastInt, 0, 0},
		{"Sub", words.Sub, leastInt, greatestInt, 0, over},
		{"Mul", words.Mul, leastInt, 1, leastInt, 0},
		{"Mul", words.Mul, leastInt, -1, 0, over},
		{"Mul", words.Mul, -1, leastInt, 0, over},
		{"Mul", words.Mul, greatestInt, -1, leastInt + 1, 0},
		{"Mul", words.Mul, leastInt, 0, 0, 0},
		{"Mul", words.Mul, 0, leastInt, 0, 0},
		{"Mul", words.Mul, leastInt, leastInt, 0, over},
		{"Mul", words.Mul, greatestInt, greatestInt, 0, over},
		{"Mul", words.Mul, leastInt, 32, 0, over},
		{"Mul", words.Mul, 1 << 30, 1 << 29, 0, over},
		{"Mul", words.Mul, 1 << 30, -1 << 29, leastInt, 0},
		{"Mul", words.Mul, 179951, 3203431780337, greatestInt, 0},
		{"Mul", words.Mul, 1 << 32, 1 << 32, 0, over},
		{"Mul", words.Mul, 1<<32 + 1, 1 << 32, 0, over},
		{"Quo", words.Quo, -7, 2, -3, 0},
		{"Quo", words.Quo, 7, -2, -3, 0},
		{"Quo", words.Quo, -7, -2, 3, 0},
		{"Quo", words.Quo, leastInt, -1, 0, over},
		{"Quo", words.Quo, leastInt, 1, leastInt, 0},
		{"Quo", words.Quo, greatestInt, -1, leastInt + 1, 0},
		{"Quo", words.Quo, greatestInt, leastInt, 0, 0},
		{"Quo", words.Quo, leastInt, greatestInt, -1, 0},
		{"Quo", words.Quo, 1, 0, 0, zero},
		{"Quo", words.Quo, 0, 0, 0, zero},
		{"Quo", words.Quo, leastInt, 0, 0, zero},
		{"Rem", words.Rem, -7, 2, -1, 0},
		{"Rem", words.Rem, 7, -2, 1, 0},
		{"Rem", words.Rem, -7, -2, -1, 0},
		{"Rem", words.Rem, leastInt, -1, 0, 0},
		{"Rem", words.Rem, greatestInt, leastInt, greatestInt, 0},
		{"Rem", words.Rem, leastInt, greatestInt, -1, 0},
		{"Rem", words.Rem, 1, 0, 0, zero},
		{"Rem", words.Rem, 0, 0, 0, zero},
		{"Rem", words.Rem, leastInt, 0, 0, zero},
	} {
		want := api.Word(0)
		if c.e == api.OK {
			want = number(t, c.want)
		}
		if w, e := c.do(number(t, c.a), number(t, c.b)); w != want || e != c.e {
			t.Errorf("%s(%d, %d): %x, %d, want %x, %d", c.name, c.a, c.b, w, e, want, c.e)
		}
	}
}

// notNumbers are words of other tags, and what is no word.
func notNumbers() []api.Word {
	var out []api.Word
	for _, w := range append(allWords(), noWords()...) {
		if tag, _, ok := words.Of(w); !ok || tag != api.TagInt {
			out = append(out, w)
		}
	}
	return out
}

// Among the numbers is 0: a word of another tag is told of ahead of a division by it.
func TestOperationsOnWhatIsNoNumber(t *testing.T) {
	for _, op := range operations() {
		for _, w := range notNumbers() {
			for _, n := range []int64{0, 1, -1, leastInt, greatestInt} {
				if got, e := op.do(w, number(t, n)); got != 0 || e != api.ErrWordKind {
					t.Errorf("%s(word %x, %d): %x, %d", op.name, w, n, got, e)
				}
				if got, e := op.do(number(t, n), w); got != 0 || e != api.ErrWordKind {
					t.Errorf("%s(%d, word %x): %x, %d", op.name, n, w, got, e)
				}
			}
			if got, e := op.do(w, w); got != 0 || e != api.ErrWordKind {
				t.Errorf("%s of the word %x twice: %x, %d", op.name, w, got, e)
			}
		}
	}
}

func TestLessOfWhatIsNoNumber(t *testing.T) {
	for _, w := range notNumbers() {
		for _, n := range []int64{0, 1, -1, leastInt, greatestInt} {
			if less, e := words.Less(w, number(t, n)); less || e != api.ErrWordKind {
				t.Errorf("Less(word %x, %d): %v, %d", w, n, less, e)
			}
			if less, e := words.Less(number(t, n), w); less || e != api.ErrWordKind {
				t.Errorf("Less(%d, word %x): %v, %d", n, w, less, e)
			}
		}
		if less, e := words.Less(w, w); less || e != api.ErrWordKind {
			t.Errorf("Less of the word %x twice: %v, %d", w, less, e)
		}
	}
}

func TestLess(t *testing.T) {
	for _, a := range operands() {
		for _, b := range operands() {
			if less, e := words.Less(number(t, a), number(t, b)); less != (a < b) || e != api.OK {
				t.Errorf("Less(%d, %d): %v, %d", a, b, less, e)
			}
		}
	}
}

func TestOfTwoNumbersOneIsLessOrTheyAreTheSame(t *testing.T) {
	for _, a := range operands() {
		for _, b := range operands() {
			v, w := number(t, a), number(t, b)
			less, _ := words.Less(v, w)
			more, _ := words.Less(w, v)
			held := 0
			for _, holds := range []bool{less, more, v == w} {
				if holds {
					held++
				}
			}
			if held != 1 {
				t.Errorf("%d and %d: less %v, more %v, the same %v", a, b, less, more, v == w)
			}
		}
	}
}

func TestSumsAndProductsDoNotHangOnTheOrder(t *testing.T) {
	for _, do := range []func(a, b api.Word) (api.Word, api.Errno){words.Add, words.Mul} {
		for _, a := range operands() {
			for _, b := range operands() {
				v, e := do(number(t, a), number(t, b))
				w, f := do(number(t, b), number(t, a))
				if v != w || e != f {
					t.Errorf("%d and %d: %x, %d; the other way %x, %d", a, b, v, e, w, f)
				}
			}
		}
	}
}

func TestSubTakesBackWhatAddHasAdded(t *testing.T) {
	for _, a := range operands() {
		for _, b := range operands() {
			sum, e := words.Add(number(t, a), number(t, b))
			if e != api.OK {
				continue
			}
			if w, e := words.Sub(sum, number(t, b)); w != number(t, a) || e != api.OK {
				t.Errorf("%d and %d: %x, %d", a, b, w, e)
			}
		}
	}
}

func TestMulIsSharedOutOverAdd(t *testing.T) {
	few := operands()[:46]
	for _, a := range few {
		for _, b := range few {
			for _, c := range few {
				checkSharedOut(t, number(t, a), number(t, b), number(t, c))
			}
		}
	}
}

func checkSharedOut(t *testing.T, a, b, c api.Word) {
	t.Helper()
	sum, e := words.Add(b, c)
	if e != api.OK {
		return
	}
	whole, e := words.Mul(a, sum)
	ab, f := words.Mul(a, b)
	ac, g := words.Mul(a, c)
	if e != api.OK || f != api.OK || g != api.OK {
		return
	}
	if parts, e := words.Add(ab, ac); parts != whole || e != api.OK {
		t.Errorf("the words %x, %x, %x: %x, %d, want %x", a, b, c, parts, e, whole)
	}
}

func TestQuoAndRemTogether(t *testing.T) {
	for _, a := range operands() {
		for _, b := range operands() {
			v, w := number(t, a), number(t, b)
			q, e := words.Quo(v, w)
			r, f := words.Rem(v, w)
			if e != api.OK || f != api.OK {
				continue
			}
			p, e := words.Mul(w, q)
			s, f := words.Add(p, r)
			if s != v || e != api.OK || f != api.OK {
				t.Errorf("%d by %d: back comes %x, %d, %d", a, b, s, e, f)
			}
			checkRest(t, a, b, r)
		}
	}
}

// checkRest checks that what a leaves is nearer to 0 than b, and is 0 or has a's sign.
func checkRest(t *testing.T, a, b int64, rest api.Word) {
	t.Helper()
	_, r, _ := words.Of(rest)
	if max(r, -r) >= max(b, -b) || r != 0 && (r < 0) != (a < 0) {
		t.Errorf("%d by %d leaves %d", a, b, r)
	}
}
