package names_test

import (
	"slices"
	"strconv"
	"strings"
	"testing"

	"dapple/api"
	"dapple/names"
)

// unlike are so many names, no two alike.
func unlike(n int) []string {
	l := make([]string, n)
	for i := range l {
		l[i] = "n" + strconv.Itoa(i)
	}
	return l
}

// noNames are texts that are none: too short, too long, with a byte that none has at its beginning, midst, end.
func noNames() []string {
	l := []string{"", strings.Repeat("x", 33), strings.Repeat("x", 100000), "a b", "λ", "a\xff\xfeb", "\u00a0", "\t", "\r\n"}
	for b := range 256 {
		if b < 0x21 || b > 0x7e {
			s := string([]byte{byte(b)})
			l = append(l, s, s+"a", "a"+s, "a"+s+"b", strings.Repeat("a", 31)+s)
		}
	}
	return l
}

// allNames are names with each byte that one may have, alone, and at the beginning and end of the longest.
func allNames() []string {
	var l []string
	for b := byte(0x21); b <= 0x7e; b++ {
		s := string([]byte{b})
		l = append(l, s, s+strings.Repeat("0", 31), strings.Repeat("1", 31)+s, strings.Repeat(s, 16))
	}
	return l
}

func TestExamples(t *testing.T) {
	a := made(t, "a", "b", "a")
	if n := a.Len(); n != 2 {
		t.Errorf("Len: %d", n)
	}
	for _, c := range []struct {
		s string
		n int
	}{{"c", 2}, {"a", 0}, {"b", 1}, {"c", 2}} {
		if n, e := a.Intern(c.s); n != c.n || e != api.OK {
			t.Errorf("Intern %s: %d, %d", c.s, n, e)
		}
	}
	plain{"a", "b", "c"}.same(t, a)
	for _, s := range []string{"", "a b", strings.Repeat("x", 33)} {
		if n, e := a.Intern(s); n != 0 || e != api.ErrNamesForm {
			t.Errorf("Intern %q: %d, %d", s, n, e)
		}
	}
	if n, ok := a.Find("a b"); n != 0 || ok {
		t.Errorf("Find: %d, %t", n, ok)
	}
	plain{"a", "b", "c"}.same(t, a)
}

func TestNumbersOfErrors(t *testing.T) {
	if api.ErrNamesForm != 40 || api.ErrNamesMuch != 41 {
		t.Error(api.ErrNamesForm, api.ErrNamesMuch)
	}
}

func TestWhatIsAName(t *testing.T) {
	table, p := made(t), plain{}
	for _, s := range allNames() {
		next, n, e := p.intern(s)
		if got, gotE := table.Intern(s); got != n || gotE != api.OK || e != api.OK {
			t.Errorf("Intern %q: %d, %d, not %d", s, got, gotE, n)
		}
		p = next
		if one, e := names.New(s); e != api.OK || one == nil || one.Len() != 1 {
			t.Errorf("New of %q: %d", s, e)
		}
	}
	p.same(t, table)
}

func TestWhatIsNone(t *testing.T) {
	table := made(t, "a", "b")
	for _, s := range noNames() {
		if n, e := table.Intern(s); n != 0 || e != api.ErrNamesForm {
			t.Errorf("Intern %q: %d, %d", s, n, e)
		}
		if n, ok := table.Find(s); n != 0 || ok {
			t.Errorf("Find %q: %d, %t", s, n, ok)
		}
		for _, first := range [][]string{{s}, {s, "a"}, {"a", s}, {"a", s, "b"}, {"a", "a", s, s}} {
			if none, e := names.New(first...); none != nil || e != api.ErrNamesForm {
				t.Errorf("New of %q: %d", first, e)
			}
		}
	}
	plain{"a", "b"}.same(t, table)
}

func TestFindsWhatInternTold(t *testing.T) {
	table := made(t)
	for _, s := range []string{"car", "cdr", "CAR", "ca", "carr", "car", "x", "1", "01"} {
		if _, ok := table.Find("never"); ok {
			t.Error("never is there")
		}
		_, was := table.Find(s)
		before := table.Len()
		n, e := table.Intern(s)
		found, ok := table.Find(s)
		name, is := table.Name(n)
		if e != api.OK || found != n || !ok || name != s || !is {
			t.Errorf("%s: Intern %d, %d; Find %d, %t; Name %q, %t", s, n, e, found, ok, name, is)
		}
		if !was && (n != before || table.Len() != before+1) || was && table.Len() != before {
			t.Errorf("%s was there: %t; there were %d, there are %d; its number is %d", s, was, before, table.Len(), n)
		}
	}
	plain{"car", "cdr", "CAR", "ca", "carr", "x", "1", "01"}.same(t, table)
}

// TestInterningAgain: what there is stays as it is.
func TestInterningAgain(t *testing.T) {
	p := plain(unlike(300))
	table := made(t, p...)
	for range 3 {
		for n, s := range p {
			if got, e := table.Intern(s); got != n || e != api.OK {
				t.Fatalf("Intern %s: %d, %d", s, got, e)
			}
		}
		p.same(t, table)
	}
}

func TestNew(t *testing.T) {
	for _, first := range [][]string{
		nil, {}, {"a"}, {"a", "a", "a"}, {"b", "a"}, {"c", "a", "b", "a", "c", "d"}, unlike(1000), append(unlike(100), unlike(200)...),
	} {
		p, _, _ := plain(nil).internAll(first)
		p.same(t, made(t, first...))
	}
}

// TestFullByNew: 4096 unlike names may be, however often each one comes; a text that is no name is told ahead of too many.
func TestFullByNew(t *testing.T) {
	for _, n := range []int{4095, 4096} {
		l := unlike(n)
		table := made(t, append(append(l[:n:n], l...), l[:7]...)...)
		if table.Len() != n || !slices.Equal(table.All(), l) {
			t.Errorf("%d names: %d", n, table.Len())
		}
	}
	for _, first := range [][]string{unlike(4097), unlike(5000), append(append(unlike(4096), "n0"), "x"), append([]string{"n1", "n1"}, unlike(4097)...)} {
		if none, e := names.New(first...); none != nil || e != api.ErrNamesMuch {
			t.Errorf("New of %d: %d", len(first), e)
		}
	}
	for _, first := range [][]string{append(unlike(4097), ""), append(unlike(5000), "x", "a b"), append([]string{" "}, unlike(5000)...)} {
		if none, e := names.New(first...); none != nil || e != api.ErrNamesForm {
			t.Errorf("New of %d with one that is none: %d", len(first), e)
		}
	}
}

// isFull asks a table of unlike(4096) for what it must answer.
func isFull(t *testing.T, table *names.Table) {
	t.Helper()
	for _, s := range []string{"n4096", "x", "N0", "n00"} {
		if n, e := table.Intern(s); n != 0 || e != api.ErrNamesMuch {
			t.Errorf("Intern %s: %d, %d", s, n, e)
		}
		if n, ok := table.Find(s); n != 0 || ok {
			t.Errorf("Find %s: %d, %t", s, n, ok)
		}
	}
	for _, s := range []string{"", "a b", strings.Repeat("x", 33)} {
		if n, e := table.Intern(s); n != 0 || e != api.ErrNamesForm {
			t.Errorf("Intern %q: %d, %d", s, n, e)
		}
	}
	for _, n := range []int{0, 1, 77, 4094, 4095} {
		s := "n" + strconv.Itoa(n)
		if got, e := table.Intern(s); got != n || e != api.OK {
			t.Errorf("Intern %s: %d, %d", s, got, e)
		}
	}
	if table.Len() != 4096 || !slices.Equal(table.All(), unlike(4096)) {
		t.Errorf("there are %d", table.Len())
	}
	if s, ok := table.Name(4095); s != "n4095" || !ok {
		t.Errorf("Name 4095: %q, %t", s, ok)
	}
	if s, ok := table.Name(4096); s != "" || ok {
		t.Errorf("Name 4096: %q, %t", s, ok)
	}
}

func TestFullByIntern(t *testing.T) {
	table := made(t, unlike(4090)...)
	for n, s := range unlike(4096)[4090:] {
		if got, e := table.Intern(s); got != 4090+n || e != api.OK {
			t.Errorf("Intern %s: %d, %d", s, got, e)
		}
	}
	isFull(t, table)
	isFull(t, made(t, unlike(4096)...))
}

// TestFullOneByOne: all of a table by Intern alone.
func TestFullOneByOne(t *testing.T) {
	table := made(t)
	for n, s := range unlike(4096) {
		if got, e := table.Intern(s); got != n || e != api.OK {
			t.Fatalf("Intern %s: %d, %d", s, got, e)
		}
	}
	isFull(t, table)
}

// TestNothingIsShared: what comes out is its owner's, and what goes in stays its owner's (R2, R10).
func TestNothingIsShared(t *testing.T) {
	first := []string{"a", "b", "c", "behind"}
	table := made(t, first[:3]...)
	if !slices.Equal(first, []string{"a", "b", "c", "behind"}) {
		t.Error(first)
	}
	clear(first)
	want := plain{"a", "b", "c"}
	want.same(t, table)
	one, two := table.All(), table.All()
	one = one[:cap(one)]
	for i := range one {
		one[i] = "spoilt"
	}
	if !slices.Equal(two, want) {
		t.Error("two lists share memory:", two)
	}
	want.same(t, table)
	table.Intern("d")
	if !slices.Equal(two, want) {
		t.Error("a list grew or changed:", two)
	}
	append(want, "d").same(t, table)
}

// TestTextOfAnother: a name is the same text, wherever it was cut from.
func TestTextOfAnother(t *testing.T) {
	source := "(car cdr car)"
	table := made(t, source[1:4])
	for _, c := range []struct {
		s string
		n int
	}{{source[5:8], 1}, {source[9:12], 0}, {strings.Clone("cdr"), 1}} {
		if n, e := table.Intern(c.s); n != c.n || e != api.OK {
			t.Errorf("Intern %s: %d, %d", c.s, n, e)
		}
	}
}

// TestTablesKnowNothingOfOneAnother is R4.
func TestTablesKnowNothingOfOneAnother(t *testing.T) {
	a, b := made(t, "x", "y"), made(t, "x", "y")
	a.Intern("a")
	b.Storm(3, "b", "a")
	plain{"x", "y", "a"}.same(t, a)
	plain{"x", "y", "b", "a"}.same(t, b)
	plain{}.same(t, made(t))
}
