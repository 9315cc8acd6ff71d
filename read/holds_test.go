package read_test

import (
	"math/rand"
	"slices"
	"strings"
	"testing"

	"dapple/api"
	"dapple/lex"
	"dapple/read"
)

// sameAll tells whether two rows of data are the same.
func sameAll(l, m []api.Datum) bool { return slices.EqualFunc(l, m, read.Same) }

// thereAndBack writes data and reads them.
func thereAndBack(t *testing.T, l []api.Datum) {
	t.Helper()
	text, e := read.Write(l...)
	if e != api.OK {
		t.Fatalf("Write of %s: %d", short(dump(l...)), e)
	}
	back, e, at := read.Read(text)
	if e != api.OK || at != 0 || !sameAll(back, l) || dump(back...) != dump(l...) {
		t.Errorf("%q is read as %s, %d, %d; not %s", short(text), short(dump(back...)), e, at, short(dump(l...)))
	}
	if again, e := read.Write(back...); again != text || e != api.OK {
		t.Errorf("%q is written as %q, %d", short(text), short(again), e)
	}
}

func TestDataThereAndBack(t *testing.T) {
	r := rand.New(rand.NewSource(61))
	for range 20000 {
		thereAndBack(t, drawnData(r))
	}
	for range 200 {
		thereAndBack(t, []api.Datum{drawnDatum(r, 500), drawnDatum(r, 500)})
	}
	thereAndBack(t, nil)
	thereAndBack(t, many(10000))
	thereAndBack(t, []api.Datum{deep(100, a), quotes(100, b), deep(98, quoted(dot(a, b)))})
	thereAndBack(t, []api.Datum{list(many(9999)...)})
	thereAndBack(t, append(many(9997), quoted(num(-1<<59))))
}

// TestSourcesThereAndBack: what is read can be written, and is read as the same again.
func TestSourcesThereAndBack(t *testing.T) {
	r := rand.New(rand.NewSource(62))
	some := 0
	for range 20000 {
		s := drawnSource(r, r.Intn(16))
		if l, e, _ := read.Read(s); e == api.OK {
			thereAndBack(t, l)
			some += min(len(l), 1)
		}
	}
	if some < 2000 {
		t.Errorf("only %d sources with data are read", some)
	}
	for range 300 {
		if l, e, _ := read.Read(drawnDeep(r)); e == api.OK {
			thereAndBack(t, l)
		}
	}
}

// TestReadButTooLong: a source needs no blank between two brackets; the text has a line end there.
func TestReadButTooLong(t *testing.T) {
	for size, want := range map[int]api.Errno{10: api.OK, 11: api.ErrMuch} {
		word := times(size, "x")
		l, e, at := read.Read(times(5000, "("+word+")"))
		if e != api.OK || at != 0 || len(l) != 5000 {
			t.Fatalf("%d data, error %d at %d", len(l), e, at)
		}
		if want != api.OK {
			refuses(t, want, l...)
			continue
		}
		thereAndBack(t, l)
	}
}

// TestNoTwoHaveOneText: different data have different texts.
func TestNoTwoHaveOneText(t *testing.T) {
	r := rand.New(rand.NewSource(63))
	byText := map[string]string{}
	for range 30000 {
		var l []api.Datum
		for range r.Intn(3) {
			l = append(l, drawnDatum(r, r.Intn(5)))
		}
		text, e := read.Write(l...)
		if e != api.OK {
			t.Fatalf("%s: %d", dump(l...), e)
		}
		if other, ok := byText[text]; ok && other != dump(l...) {
			t.Errorf("%q is the text of %s and of %s", text, other, dump(l...))
		}
		byText[text] = dump(l...)
	}
}

// TestTwoSources: with a byte 10 between they are read as both are; refused by ErrReadForm where the first one is, but at its end.
func TestTwoSources(t *testing.T) {
	r := rand.New(rand.NewSource(64))
	both, first := 0, 0
	for range 20000 {
		s, u := drawnSource(r, r.Intn(9)), drawnSource(r, r.Intn(9))
		l, e, at := read.Read(s)
		m, f, _ := read.Read(u)
		_, lexed, _ := lex.Tokens(u)
		switch {
		case e == api.OK && f == api.OK:
			both++
			reads(t, s+"\n"+u, fine(slices.Concat(l, m)...))
		case e == api.ErrReadForm && at < len(s) && lexed == api.OK:
			first++
			reads(t, s+"\n"+u, form(at))
		}
	}
	if both < 500 || first < 500 {
		t.Errorf("%d are read, of %d the first one is refused", both, first)
	}
	reads(t, "(a", form(2))
	reads(t, "(a\nb)", fine(list(a, b)))
	reads(t, "'\na", fine(quoted(a)))
	reads(t, times(5000, "1 ")+"\n"+times(5001, "1 "), wrong(api.ErrReadMuch, 20001))
	reads(t, times(40000, " ")+"\n"+times(30000, " "), wrong(api.ErrMuch, 0))
}

// spread lays gaps between the tokens of a source, and tells where each of them stands then.
func spread(r *rand.Rand, s string, tokens []api.Token) (string, map[int]int) {
	gaps := []string{" ", "\n", "\t", "\r", "\r\n", ";\n", "; ) ' ( \" 1x\n", "  ", " ;;\n\n"}
	var b strings.Builder
	places := map[int]int{}
	for i, token := range tokens {
		for range r.Intn(3) {
			b.WriteString(gaps[r.Intn(len(gaps))])
		}
		places[token.At] = b.Len()
		if token.Kind != api.TokenEnd {
			// What is left out behind a token stays, so that words do not run together.
			b.WriteString(s[token.At:tokens[i+1].At])
		}
	}
	return b.String(), places
}

// TestBlanksChangeNothingButPlaces: blanks, line ends and comments more.
func TestBlanksChangeNothingButPlaces(t *testing.T) {
	r := rand.New(rand.NewSource(65))
	fineOnes, wrongOnes := 0, 0
	for range 20000 {
		s := drawnSource(r, r.Intn(12)) + "\n"
		tokens, e, _ := lex.Tokens(s)
		if e != api.OK {
			continue
		}
		wide, places := spread(r, s, tokens)
		l, e, at := read.Read(s)
		if e == api.OK {
			fineOnes++
			reads(t, wide, fine(l...))
			continue
		}
		wrongOnes++
		place, ok := places[at]
		if !ok {
			t.Fatalf("%q: %d is no token's place", s, at)
		}
		reads(t, wide, wrong(e, place))
	}
	if fineOnes < 1000 || wrongOnes < 1000 {
		t.Errorf("%d are read, %d are not", fineOnes, wrongOnes)
	}
}
