package read_test

import (
	"fmt"
	"iter"
	"math/rand"
	"slices"
	"strings"
	"testing"

	"dapple/api"
	"dapple/lex"
	"dapple/read"
)

// told is what Read answers.
type told struct {
	data []api.Datum
	e    api.Errno
	at   int
}

// pair is how a Lisp has its lists: nil is the empty one, anything else but a pair is a datum without Kids.
type pair struct{ car, cdr any }

// opened is a bracket or a quote that is not closed yet.
type opened struct {
	quote  bool
	items  []any
	dotted bool
	tails  []any
}

// plainReader is the chapter once more, without a function that calls itself: what is open stands in a row, lists are pairs.
type plainReader struct {
	open  []*opened
	all   []any
	count int
}

func plainRead(s string) told {
	tokens, e, at := lex.Tokens(s)
	if e != api.OK {
		return told{nil, e, at}
	}
	var p plainReader
	before := api.TokenEnd
	for _, token := range tokens {
		if e := p.refuses(before, token.Kind); e != api.OK {
			return told{nil, e, token.At}
		}
		p.take(token)
		before = token.Kind
	}
	var data []api.Datum
	for _, v := range p.all {
		data = append(data, asDatum(v))
	}
	return told{data, api.OK, 0}
}

// lists are how many of those that are open are brackets.
func (p *plainReader) lists() int {
	n := 0
	for _, o := range p.open {
		if !o.quote {
			n++
		}
	}
	return n
}

// refuses is what a token is refused by behind another one, by the three rules.
func (p *plainReader) refuses(before, kind api.TokenKind) api.Errno {
	quote, dot, open := before == api.TokenQuote, before == api.TokenDot, before == api.TokenOpen
	form := false
	switch kind {
	case api.TokenClose:
		form = p.lists() == 0 || quote || dot
	case api.TokenDot:
		form = p.lists() == 0 || open || quote || dot
	case api.TokenEnd:
		form = p.lists() > 0 || quote
	}
	if len(p.open) > 0 && len(p.open[len(p.open)-1].tails) > 0 && kind != api.TokenClose {
		form = true
	}
	if form {
		return api.ErrReadForm
	}
	if len(p.open) >= 100 && (kind == api.TokenOpen || kind == api.TokenQuote) {
		return api.ErrReadDeep
	}
	switch kind {
	case api.TokenInt, api.TokenSymbol, api.TokenFalse, api.TokenTrue, api.TokenOpen:
		p.count++
	case api.TokenQuote:
		p.count += 2
	}
	if p.count > 10000 {
		return api.ErrReadMuch
	}
	return api.OK
}

// take takes a token that is not refused.
func (p *plainReader) take(token api.Token) {
	switch token.Kind {
	case api.TokenOpen, api.TokenQuote:
		p.open = append(p.open, &opened{quote: token.Kind == api.TokenQuote})
	case api.TokenDot:
		p.open[len(p.open)-1].dotted = true
	case api.TokenClose:
		o := p.open[len(p.open)-1]
		p.open = p.open[:len(p.open)-1]
		var v any
		if o.dotted {
			v = o.tails[0]
		}
		for _, item := range slices.Backward(o.items) {
			v = &pair{item, v}
		}
		p.stands(v)
	case api.TokenInt:
		p.stands(num(token.N))
	case api.TokenSymbol:
		p.stands(sym(token.Text))
	case api.TokenFalse:
		p.stands(no)
	case api.TokenTrue:
		p.stands(yes)
	}
}

// stands lays a datum where it stands, and closes the quotes ahead of it.
func (p *plainReader) stands(v any) {
	for len(p.open) > 0 && p.open[len(p.open)-1].quote {
		p.open = p.open[:len(p.open)-1]
		v = &pair{sym("quote"), &pair{v, nil}}
	}
	if len(p.open) == 0 {
		p.all = append(p.all, v)
		return
	}
	o := p.open[len(p.open)-1]
	if o.dotted {
		o.tails = append(o.tails, v)
	} else {
		o.items = append(o.items, v)
	}
}

// asDatum is a row of pairs as one list, whose tail is what stands in the place of nil.
func asDatum(v any) api.Datum {
	if d, ok := v.(api.Datum); ok {
		return d
	}
	l := list()
	for v != nil {
		p, ok := v.(*pair)
		if !ok {
			l.Dot = true
			l.Kids = append(l.Kids, v.(api.Datum))
			break
		}
		l.Kids = append(l.Kids, asDatum(p.car))
		v = p.cdr
	}
	return l
}

// dump tells all fields of data.
func dump(l ...api.Datum) string {
	var b strings.Builder
	dumpTo(&b, l)
	return b.String()
}

func dumpTo(b *strings.Builder, l []api.Datum) {
	for _, d := range l {
		fmt.Fprintf(b, "<%d %d %q %t ", d.Kind, d.N, d.Text, d.Dot)
		dumpTo(b, d.Kids)
		b.WriteString(">")
	}
}

// eachOf goes through data and what is in them.
func eachOf(l []api.Datum) iter.Seq[api.Datum] {
	return func(yield func(api.Datum) bool) {
		left := slices.Clone(l)
		for len(left) > 0 {
			d := left[len(left)-1]
			left = append(left[:len(left)-1], d.Kids...)
			if !yield(d) {
				return
			}
		}
	}
}

// depthOf is how deep a datum is.
func depthOf(d api.Datum) int {
	if d.Kind != api.DatumList {
		return 0
	}
	deepest := 0
	for _, kid := range d.Kids {
		deepest = max(deepest, depthOf(kid))
	}
	return deepest + 1
}

// plainWrite is the chapter once more: each rule gone through by itself.
func plainWrite(l []api.Datum) (string, api.Errno) {
	count, deepest := 0, 0
	for d := range eachOf(l) {
		count++
		if !plainDatum(d) {
			return "", api.ErrReadForm
		}
	}
	for _, d := range l {
		deepest = max(deepest, depthOf(d))
	}
	var texts []string
	for _, d := range l {
		texts = append(texts, plainText(d))
	}
	text := strings.Join(texts, "\n")
	switch {
	case deepest > 100:
		return "", api.ErrReadDeep
	case count > 10000:
		return "", api.ErrReadMuch
	case len(text) > 65536:
		return "", api.ErrMuch
	}
	return text, api.OK
}

// plainDatum tells whether a datum is one, but for its Kids.
func plainDatum(d api.Datum) bool {
	isInt, isSymbol, isList := d.Kind == 1, d.Kind == 2, d.Kind == 5
	switch {
	case d.Kind < 1 || d.Kind > 5:
		return false
	case !isInt && d.N != 0, !isSymbol && d.Text != "", !isList && (len(d.Kids) > 0 || d.Dot):
		return false
	case isInt && (d.N < -576460752303423488 || d.N > 576460752303423487):
		return false
	case isSymbol && !lex.IsSymbol(d.Text):
		return false
	case d.Dot && (len(d.Kids) < 2 || d.Kids[len(d.Kids)-1].Kind == 5):
		return false
	}
	return true
}

// plainText is how a datum is written.
func plainText(d api.Datum) string {
	switch d.Kind {
	case api.DatumInt:
		return fmt.Sprint(d.N)
	case api.DatumSymbol:
		return d.Text
	case api.DatumFalse, api.DatumTrue:
		return "#" + string("ft"[d.Kind-api.DatumFalse])
	}
	var texts []string
	for _, kid := range d.Kids {
		texts = append(texts, plainText(kid))
	}
	if len(texts) == 2 && texts[0] == "quote" && !d.Dot {
		return "'" + texts[1]
	}
	if d.Dot {
		texts = slices.Insert(texts, len(texts)-1, ".")
	}
	return "(" + strings.Join(texts, " ") + ")"
}

// short is as much of a source as can be told of it.
func short(s string) string {
	if len(s) > 80 {
		return s[:40] + ".." + s[len(s)-20:]
	}
	return s
}

// reads holds Read of a source against what is wanted.
func reads(t *testing.T, s string, want told) {
	t.Helper()
	l, e, at := read.Read(s)
	if e != want.e || at != want.at || dump(l...) != dump(want.data...) {
		t.Errorf("Read of %q: %s, error %d at %d; not %s, %d at %d", short(s), short(dump(l...)), e, at, short(dump(want.data...)), want.e, want.at)
	}
}

// samePlain holds a source against the chapter, and what is read against its text.
func samePlain(t *testing.T, s string) {
	t.Helper()
	want := plainRead(s)
	reads(t, s, want)
	writesPlain(t, want.data)
}

// writesPlain holds Write of data against the chapter.
func writesPlain(t *testing.T, l []api.Datum) {
	t.Helper()
	want, wantE := plainWrite(l)
	if text, e := read.Write(l...); text != want || e != wantE {
		t.Errorf("Write of %s: %q, %d; not %q, %d", short(dump(l...)), short(text), e, short(want), wantE)
	}
}

// rowsOf are all rows of at most so many of these texts, with a blank behind each.
func rowsOf(texts []string, most int) iter.Seq[string] {
	return func(yield func(string) bool) {
		var longer func(s string, n int) bool
		longer = func(s string, n int) bool {
			if !yield(s) {
				return false
			}
			for i := 0; i < len(texts) && n < most; i++ {
				if !longer(s+texts[i]+" ", n+1) {
					return false
				}
			}
			return true
		}
		longer("", 0)
	}
}

func TestAllShortSources(t *testing.T) {
	for s := range rowsOf([]string{"(", ")", "'", ".", "a"}, 7) {
		samePlain(t, s)
	}
	for s := range rowsOf([]string{"(", ")", "'", ".", "#t", "#f", "-7", "quote", "1x"}, 4) {
		samePlain(t, s)
	}
}

// drawnDatum is one that may be, of about so many data.
func drawnDatum(r *rand.Rand, size int) api.Datum {
	if size <= 1 {
		switch r.Intn(7) {
		case 0:
			return num(r.Int63n(1<<60) - 1<<59)
		case 1:
			return num(int64(r.Intn(21) - 10))
		case 2:
			return []api.Datum{no, yes}[r.Intn(2)]
		case 3:
			return list()
		default:
			return sym([]string{"quote", "a", "b.c", "...", "+", "-", "set-car!", strings.Repeat("z", 32)}[r.Intn(8)])
		}
	}
	if r.Intn(5) == 0 {
		return list(sym("quote"), drawnDatum(r, size-2))
	}
	l := list()
	for size > 1 {
		n := 1 + r.Intn(size-1)
		l.Kids = append(l.Kids, drawnDatum(r, n))
		size -= n
	}
	l.Dot = len(l.Kids) >= 2 && l.Kids[len(l.Kids)-1].Kind != api.DatumList && r.Intn(3) == 0
	return l
}

// drawnData are up to three of them.
func drawnData(r *rand.Rand) []api.Datum {
	var l []api.Datum
	for range r.Intn(4) {
		l = append(l, drawnDatum(r, r.Intn(14)))
	}
	return l
}

// drawnFlawed is such a datum, of which something is changed, perhaps so that it may not be any more.
func drawnFlawed(r *rand.Rand) api.Datum {
	d := drawnDatum(r, r.Intn(9))
	at := &d
	for len(at.Kids) > 0 && r.Intn(4) > 0 {
		at = &at.Kids[r.Intn(len(at.Kids))]
	}
	switch r.Intn(6) {
	case 0:
		at.Kind = api.DatumKind(r.Intn(8))
	case 1:
		at.N = []int64{0, 1, -1 << 59, 1<<59 - 1, 1 << 59, -1<<59 - 1, 1 << 63 >> 1}[r.Intn(7)]
	case 2:
		at.Text = []string{"", "a", "quote", "1a", "a b", "#t", strings.Repeat("z", 33)}[r.Intn(7)]
	case 3:
		at.Dot = !at.Dot
	case 4:
		at.Kids = append(slices.Clone(at.Kids), list())
	case 5:
		at.Kids = at.Kids[:len(at.Kids)/2]
	}
	return d
}

// drawnSource is of so many pieces, with faults or without.
func drawnSource(r *rand.Rand, pieces int) string {
	var b strings.Builder
	open := 0
	for range pieces {
		switch n := r.Intn(40); {
		case n < 10:
			open++
			b.WriteString("(")
		case n < 20 && open > 0:
			open--
			b.WriteString(")")
		case n < 24:
			b.WriteString("'")
		case n < 27 && open > 0:
			b.WriteString(" . ")
		case n < 28:
			b.WriteString([]string{")", " . ", "1x ", "\"", "576460752303423488 "}[r.Intn(5)])
		case n < 31:
			b.WriteString([]string{";x\n", "\t", "\r\n", " \n ", "; ( '\n", "\n"}[r.Intn(6)])
		default:
			b.WriteString([]string{"a ", "-7 ", "#t ", "#f ", "quote ", "b.c\n", "... ", "007;\n"}[r.Intn(8)])
		}
	}
	if r.Intn(4) > 0 {
		b.WriteString(strings.Repeat(")", open))
	}
	return b.String()
}

func TestDrawnSources(t *testing.T) {
	r := rand.New(rand.NewSource(6))
	errors := map[api.Errno]int{}
	for range 20000 {
		s := drawnSource(r, r.Intn(16))
		samePlain(t, s)
		errors[plainRead(s).e]++
	}
	for _, e := range []api.Errno{api.OK, api.ErrReadForm, api.ErrLexText, api.ErrLexByte, api.ErrLexOver} {
		if errors[e] < 50 {
			t.Errorf("error %d was drawn only %d times", e, errors[e])
		}
	}
}

// drawnDeep is a source that goes in and out around the greatest depth.
func drawnDeep(r *rand.Rand) string {
	var b strings.Builder
	opens := []string{"(", "'", "(a . ", "(a "}
	for range 97 + r.Intn(6) {
		b.WriteString(opens[r.Intn(len(opens))])
	}
	b.WriteString([]string{"b", "()", "'b", ")", ""}[r.Intn(5)])
	return b.String() + strings.Repeat(")", 70+r.Intn(20))
}

// drawnMuch is a source with about as many data as there may be.
func drawnMuch(r *rand.Rand) string {
	pieces := []string{"a ", "'b ", "(c . (d))", "(1 2 . 3)", "''()", "#t "}
	var b strings.Builder
	for left := 9990 + r.Intn(20); left > 0; {
		piece := pieces[r.Intn(len(pieces))]
		left -= strings.Count(piece, "(") + 2*strings.Count(piece, "'") + strings.Count(strings.Map(onlyWords, piece), "w")
		b.WriteString(piece)
	}
	return b.String()
}

// onlyWords is w for a byte of a word.
func onlyWords(c rune) rune {
	if strings.ContainsRune("abcdt123", c) {
		return 'w'
	}
	return -1
}

func TestDrawnBigSources(t *testing.T) {
	r := rand.New(rand.NewSource(66))
	errors := map[api.Errno]int{}
	for range 1500 {
		s := drawnDeep(r)
		samePlain(t, s)
		errors[plainRead(s).e]++
	}
	for range 100 {
		s := drawnMuch(r)
		samePlain(t, s)
		errors[plainRead(s).e]++
	}
	for _, e := range []api.Errno{api.OK, api.ErrReadForm, api.ErrReadDeep, api.ErrReadMuch} {
		if errors[e] < 20 {
			t.Errorf("error %d was drawn only %d times", e, errors[e])
		}
	}
}

func TestDrawnData(t *testing.T) {
	r := rand.New(rand.NewSource(666))
	refused := 0
	for range 20000 {
		l := append(drawnData(r), drawnFlawed(r))
		r.Shuffle(len(l), func(i, j int) { l[i], l[j] = l[j], l[i] })
		writesPlain(t, l)
		if _, e := plainWrite(l); e == api.ErrReadForm {
			refused++
		}
		if a, b := l[0], drawnFlawed(r); read.Same(a, b) != (dump(a) == dump(b)) {
			t.Errorf("Same of %s and %s", dump(a), dump(b))
		}
	}
	if refused < 2000 || refused > 18000 {
		t.Errorf("%d are refused", refused)
	}
}

// FuzzPlain draws on, if it is told to; else it goes through what it begins with.
func FuzzPlain(f *testing.F) {
	for _, s := range []string{"", "(a 1 . b) 'x #t", "()", "(a . (b . (c)))", "(a . 'b)", ")", "(a", "(. a)", "(a . b c)", "(a . )", "'", "(')", ") \""} {
		f.Add(s)
	}
	f.Fuzz(samePlain)
}
