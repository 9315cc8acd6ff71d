package read_test

import (
	"slices"
	"testing"

	"dapple/api"
	"dapple/read"
)

func TestWrites(t *testing.T) {
	q := sym("quote")
	for want, l := range map[string][]api.Datum{
		"":                    nil,
		"0":                   {num(0)},
		"-1":                  {num(-1)},
		"576460752303423487":  {num(1<<59 - 1)},
		"-576460752303423488": {num(-1 << 59)},
		"#f\n#t":              {no, yes},
		"a\nb\nc":             {a, b, c},
		"()":                  {list()},
		"()\n()":              {list(), list()},
		"(a)":                 {list(a)},
		"(a b c)":             {list(a, b, c)},
		"(a . b)":             {dot(a, b)},
		"(a b . c)":           {dot(a, b, c)},
		"(a . #f)":            {dot(a, no)},
		"(() . 7)":            {dot(list(), num(7))},
		"((a . b) . c)":       {dot(dot(a, b), c)},
		"(a (b . c) d)":       {list(a, dot(b, c), d)},
		"(() (()))":           {list(list(), list(list()))},
		"'a":                  {quoted(a)},
		"''a":                 {quoted(quoted(a))},
		"'()":                 {quoted(list())},
		"'(a . b)":            {quoted(dot(a, b))},
		"('a . b)":            {dot(quoted(a), b)},
		"(a 'b)":              {list(a, quoted(b))},
		"('a)":                {list(quoted(a))},
		"'quote":              {quoted(q)},
		"quote":               {q},
		"(quote)":             {list(q)},
		"(quote . a)":         {dot(q, a)},
		"(quote a b)":         {list(q, a, b)},
		"(quote a . b)":       {dot(q, a, b)},
		"(a quote)":           {list(a, q)},
		"(a quote b)":         {list(a, q, b)},
		"(a . quote)":         {dot(a, q)},
		"((quote) a)":         {list(list(q), a)},
		"(quote-it a)":        {list(sym("quote-it"), a)},
		"(Quote a)":           {list(sym("Quote"), a)},
		"(#t a)":              {list(yes, a)},
		"'a\n'(b)\n(c . d)":   {quoted(a), quoted(list(b)), dot(c, d)},
		times(32, "x"):        {sym(times(32, "x"))},
		"...\n-\n+1\n.a":      {sym("..."), sym("-"), sym("+1"), sym(".a")},
	} {
		writes(t, want, l...)
	}
}

// notData are data that may not be, by themselves.
func notData() []api.Datum {
	kid := []api.Datum{a}
	l := []api.Datum{
		{}, {Kind: 6}, {Kind: 255}, {N: 1}, {Text: "a"}, {Kids: kid}, {Kind: 6, Kids: kid},
		num(1 << 59), num(-1<<59 - 1), num(1<<63 - 1), num(-1 << 63),
		{Kind: api.DatumInt, Text: "a"}, {Kind: api.DatumInt, N: 7, Text: "7"}, {Kind: api.DatumInt, Kids: kid}, {Kind: api.DatumInt, Dot: true},
		{Kind: api.DatumSymbol, Text: "a", N: 1}, {Kind: api.DatumSymbol, Text: "a", N: -1}, {Kind: api.DatumSymbol, Text: "a", Kids: kid}, {Kind: api.DatumSymbol, Text: "a", Dot: true},
		{Kind: api.DatumList, N: 1}, {Kind: api.DatumList, Text: "a"}, {Kind: api.DatumList, Kids: kid, Text: "a"}, {Kind: api.DatumList, Kids: kid, N: -1},
		dot(), dot(a), dot(list()), dot(a, list()), dot(a, b, list(c)), dot(list(), list()), dot(a, dot(b, c)), dot(a, quoted(b)),
		dot(a, api.Datum{}), dot(api.Datum{}, a), list(api.Datum{}),
	}
	for _, kind := range []api.DatumKind{api.DatumFalse, api.DatumTrue} {
		l = append(l, api.Datum{Kind: kind, N: 1}, api.Datum{Kind: kind, Text: "a"}, api.Datum{Kind: kind, Kids: kid}, api.Datum{Kind: kind, Dot: true})
	}
	for _, text := range []string{"", "1a", "7", "-7", "-1x", ".", "#t", "#f", "#", "#a", "a b", " a", "a ", "a\n", "(", ")", "()", "'", "'a", "a'", ";", "a;b", "\"", "a\"", "a\x00", "\x7f", "λ", "1.5", times(33, "a")} {
		l = append(l, sym(text))
	}
	return l
}

// TestWriteRefusesWhatIsNone: wherever it stands.
func TestWriteRefusesWhatIsNone(t *testing.T) {
	for _, d := range notData() {
		refuses(t, api.ErrReadForm, d)
		refuses(t, api.ErrReadForm, a, d)
		refuses(t, api.ErrReadForm, d, a)
		refuses(t, api.ErrReadForm, list(d))
		refuses(t, api.ErrReadForm, list(a, d, b))
		refuses(t, api.ErrReadForm, quoted(d))
		refuses(t, api.ErrReadForm, list(d, a))
		refuses(t, api.ErrReadForm, dot(d, a))
		refuses(t, api.ErrReadForm, dot(a, d))
		refuses(t, api.ErrReadForm, dot(a, d, b))
		refuses(t, api.ErrReadForm, a, list(), deep(99, d))
	}
	// Of a quote that is none the datum is none.
	refuses(t, api.ErrReadForm, list(api.Datum{Kind: api.DatumSymbol, Text: "quote", N: 1}, a))
}

// TestNoughts: an empty list of Kids is one (R6).
func TestNoughts(t *testing.T) {
	empty := []api.Datum{}
	writes(t, "7\na\n#f\n#t\n()", api.Datum{Kind: api.DatumInt, N: 7, Kids: empty}, api.Datum{Kind: api.DatumSymbol, Text: "a", Kids: empty},
		api.Datum{Kind: api.DatumFalse, Kids: empty}, api.Datum{Kind: api.DatumTrue, Kids: empty}, api.Datum{Kind: api.DatumList, Kids: empty})
	writes(t, "", empty...)
	writes(t, "(0 #f)", list(num(0), no))
}

func TestDepthOfData(t *testing.T) {
	for _, n := range []int{99, 100, 101} {
		for _, d := range []api.Datum{deep(n, a), deep(n-1, list()), quotes(n, a), quotes(n-1, list()), deep(n-1, dot(a, b)), deep(n-1, quoted(a))} {
			writesPlain(t, []api.Datum{d})
			if n > 100 {
				refuses(t, api.ErrReadDeep, d)
				refuses(t, api.ErrReadDeep, a, d)
				refuses(t, api.ErrReadDeep, d, a)
				refuses(t, api.ErrReadDeep, list(a, d, b))
				continue
			}
			if text, e := read.Write(d, list(), d); text == "" || e != api.OK {
				t.Errorf("%d deep: %d", n, e)
			}
		}
	}
	writes(t, times(100, "(")+"a"+times(100, ")"), deep(100, a))
	writes(t, times(100, "'")+"a", quotes(100, a))
	refuses(t, api.ErrReadDeep, deep(1000, a))
	refuses(t, api.ErrReadDeep, deep(65535, a))
	refuses(t, api.ErrReadDeep, list(a, deep(100, b), c))
	refuses(t, api.ErrReadDeep, dot(deep(100, b), c))
}

// TestHowManyData: 9999, 10000, 10001, side by side, in one list, as quotes.
func TestHowManyData(t *testing.T) {
	writes(t, times(9998, "1\n")+"1", many(9999)...)
	writes(t, times(9999, "1\n")+"1", many(10000)...)
	refuses(t, api.ErrReadMuch, many(10001)...)
	writes(t, "("+times(9997, "1 ")+"1)", list(many(9998)...))
	writes(t, "("+times(9998, "1 ")+"1)", list(many(9999)...))
	refuses(t, api.ErrReadMuch, list(many(10000)...))
	writes(t, times(9996, "1\n")+"'a", append(many(9996), quoted(a))...)
	writes(t, times(9997, "1\n")+"'a", append(many(9997), quoted(a))...)
	refuses(t, api.ErrReadMuch, append(many(9998), quoted(a))...)
	refuses(t, api.ErrReadMuch, append(many(9999), list(a))...)
	writes(t, times(9998, "1\n")+"(a)", append(many(9998), list(a))...)
	refuses(t, api.ErrReadMuch, slices.Repeat([]api.Datum{dot(a, b, list(list()), c)}, 1667)...)
	refuses(t, api.ErrReadMuch, list(many(5000)...), list(many(4999)...))
	writes(t, "("+times(4999, "1 ")+"1)\n("+times(4997, "1 ")+"1)", list(many(5000)...), list(many(4998)...))
}

// TestLengthOfTexts: 65535, 65536, 65537 bytes, by symbols side by side, in a list, with a quote, with integers.
func TestLengthOfTexts(t *testing.T) {
	long := slices.Repeat([]api.Datum{sym(times(32, "x"))}, 1985) // 65504 bytes, side by side
	for _, n := range []int{30, 31, 32} {
		last := times(n, "y")
		text := times(1985, times(32, "x")+"\n") + last
		tellsLength(t, text, append(slices.Clone(long), sym(last))...)
		tellsLength(t, "("+times(1985, times(32, "x")+" ")+last[2:]+")", list(append(slices.Clone(long), sym(last[2:]))...))
		tellsLength(t, times(1985, times(32, "x")+"\n")+"'"+last[1:], append(slices.Clone(long), quoted(sym(last[1:])))...)
		tellsLength(t, times(1985, times(32, "x")+"\n")+last[7:]+"\n-12345", append(slices.Clone(long), sym(last[7:]), num(-12345))...)
		tellsLength(t, times(1985, times(32, "x")+"\n")+"(#f . "+last[7:]+")", append(slices.Clone(long), dot(no, sym(last[7:])))...)
	}
}

// tellsLength holds Write of data against a text, which is perhaps too long.
func tellsLength(t *testing.T, want string, l ...api.Datum) {
	t.Helper()
	if len(want) > 65536 {
		refuses(t, api.ErrMuch, l...)
		return
	}
	writes(t, want, l...)
	reads(t, want, fine(l...))
}

// TestTheFirstOfWrite: which error goes ahead of which, wherever they stand.
func TestTheFirstOfWrite(t *testing.T) {
	none, tooDeep, tooMany := api.Datum{}, deep(101, a), list(many(10000)...)
	tooLong := slices.Repeat([]api.Datum{sym(times(32, "x"))}, 9000)
	refuses(t, api.ErrReadForm, tooDeep, none)
	refuses(t, api.ErrReadForm, none, tooDeep)
	refuses(t, api.ErrReadForm, tooMany, none)
	refuses(t, api.ErrReadForm, none, tooMany)
	refuses(t, api.ErrReadForm, append(slices.Clone(tooLong), none)...)
	refuses(t, api.ErrReadForm, deep(101, none))
	refuses(t, api.ErrReadForm, deep(1000, dot(a)))
	refuses(t, api.ErrReadDeep, tooMany, tooDeep)
	refuses(t, api.ErrReadDeep, tooDeep, tooMany)
	refuses(t, api.ErrReadDeep, append(slices.Clone(tooLong), tooDeep)...)
	refuses(t, api.ErrReadDeep, deep(100, tooMany))
	refuses(t, api.ErrReadMuch, append(slices.Clone(tooLong), tooMany)...)
	refuses(t, api.ErrReadMuch, append(slices.Clone(tooLong), many(1001)...)...)
	refuses(t, api.ErrMuch, tooLong...)
}

// TestWhatIsHandedInStays: neither it nor what lies behind it is changed, or read (R2, R10).
func TestWhatIsHandedInStays(t *testing.T) {
	behind := api.Datum{Kind: 99, Text: "behind"}
	kids := []api.Datum{a, quoted(b), dot(c, d), behind}
	l := []api.Datum{list(kids[:3]...), quoted(a), num(7), behind, behind}
	want := dump(l...) + dump(kids...)
	text, e := read.Write(l[:3]...)
	if text != "(a 'b (c . d))\n'a\n7" || e != api.OK {
		t.Errorf("%q, %d", text, e)
	}
	if !read.Same(l[0], list(a, quoted(b), dot(c, d))) || !read.Same(list(l[:3]...), list(list(kids[:3]...), quoted(a), num(7))) {
		t.Error("Same reads what lies behind")
	}
	if got := dump(l...) + dump(kids...); got != want {
		t.Errorf("%s, not %s", got, want)
	}
	if again, e := read.Write(l[:3]...); again != text || e != api.OK {
		t.Errorf("%q, %d", again, e)
	}
}

// TestSame: each field is told apart, in data that may be and in such as may not, and deep inside.
func TestSame(t *testing.T) {
	l := append(notData(), num(0), num(1), num(-1), a, b, sym("quote"), no, yes, list(), list(a), list(b), list(a, b), list(b, a), dot(a, b), list(a, b, c), dot(a, b, c), list(list(a), b), list(a, list(b)), list(list()), quoted(a), deep(50, a), deep(50, b), deep(51, a), deep(3000, a), deep(3000, b), deep(2999, list()))
	var dumps []string
	for _, d := range l {
		dumps = append(dumps, dump(d))
	}
	for i, x := range l {
		for j, y := range l {
			want := dumps[i] == dumps[j]
			if read.Same(x, y) != want {
				t.Errorf("Same of %s and %s: %t", short(dumps[i]), short(dumps[j]), !want)
			}
		}
	}
	full := api.Datum{Kind: 3, N: 4, Text: "t", Kids: []api.Datum{a}, Dot: true}
	for i, change := range []func(*api.Datum){
		func(d *api.Datum) { d.Kind = 4 },
		func(d *api.Datum) { d.N = -4 },
		func(d *api.Datum) { d.N = 1<<62 + 4 },
		func(d *api.Datum) { d.Text = "T" },
		func(d *api.Datum) { d.Text = "t " },
		func(d *api.Datum) { d.Kids = []api.Datum{b} },
		func(d *api.Datum) { d.Kids = nil },
		func(d *api.Datum) { d.Kids = []api.Datum{a, a} },
		func(d *api.Datum) { d.Dot = false },
	} {
		other := full
		change(&other)
		if read.Same(full, other) || read.Same(other, full) || read.Same(list(a, full), list(a, other)) || read.Same(deep(9, full), deep(9, other)) {
			t.Errorf("change %d is not told", i)
		}
	}
	if !read.Same(full, full) || !read.Same(list(full, full), list(full, full)) {
		t.Error("a datum is not the same as itself")
	}
}

// TestSameWithoutKids: nil and empty are the same thing (R6).
func TestSameWithoutKids(t *testing.T) {
	for kind := range api.DatumKind(7) {
		bare, empty := api.Datum{Kind: kind}, api.Datum{Kind: kind, Kids: []api.Datum{}}
		room := api.Datum{Kind: kind, Kids: make([]api.Datum, 0, 5)}
		if !read.Same(bare, empty) || !read.Same(empty, bare) || !read.Same(list(room), list(bare)) {
			t.Errorf("kind %d", kind)
		}
	}
}
