package names_test

import (
	"math/rand"
	"slices"
	"testing"

	"dapple/api"
	"dapple/names"
)

// plain is the names of a table, by their numbers, as the document speaks of them.
type plain []string

// mayBeName is what the document says of a name, without package names.
func mayBeName(s string) bool {
	for _, b := range []byte(s) {
		if b < '!' || b > '~' {
			return false
		}
	}
	return len(s) >= 1 && len(s) <= 32
}

// intern is what the document says of Intern: what the table has then, and the answer.
func (p plain) intern(s string) (plain, int, api.Errno) {
	if !mayBeName(s) {
		return p, 0, api.ErrNamesForm
	}
	if n := slices.Index(p, s); n >= 0 {
		return p, n, api.OK
	}
	if len(p) == 4096 {
		return p, 0, api.ErrNamesMuch
	}
	return append(p[:len(p):len(p)], s), len(p), api.OK
}

func (p plain) find(s string) (int, bool) {
	n := slices.Index(p, s)
	return max(n, 0), n >= 0
}

func (p plain) name(n int) (string, bool) {
	if n < 0 || n >= len(p) {
		return "", false
	}
	return p[n], true
}

// internAll is Intern of each text, in their order.
func (p plain) internAll(l []string) (plain, []int, []api.Errno) {
	numbers, errs := make([]int, len(l)), make([]api.Errno, len(l))
	for i, s := range l {
		p, numbers[i], errs[i] = p.intern(s)
	}
	return p, numbers, errs
}

// made is a table that must be there.
func made(t *testing.T, first ...string) *names.Table {
	t.Helper()
	table, e := names.New(first...)
	if e != api.OK || table == nil {
		t.Fatalf("New of %d names: %d", len(first), e)
	}
	return table
}

// same asks a table for all that it has.
func (p plain) same(t *testing.T, table *names.Table) {
	t.Helper()
	if n := table.Len(); n != len(p) {
		t.Errorf("Len: %d, not %d", n, len(p))
	}
	if all := table.All(); !slices.Equal(all, p) {
		t.Errorf("All: %q, not %q", all, p)
	}
	for n, s := range p {
		if got, ok := table.Name(n); got != s || !ok {
			t.Errorf("Name %d: %q, %t, not %q", n, got, ok, s)
		}
		if got, ok := table.Find(s); got != n || !ok {
			t.Errorf("Find %q: %d, %t, not %d", s, got, ok, n)
		}
	}
	for _, n := range []int{-1, len(p), -1 << 63, 1<<63 - 1} {
		if got, ok := table.Name(n); got != "" || ok {
			t.Errorf("Name %d: %q, %t", n, got, ok)
		}
	}
	if t.Failed() {
		t.FailNow()
	}
}

// someText is a text drawn by r: most are names, a good deal of them alike.
func someText(r *rand.Rand) string {
	pool := []string{"car", "cdr", "cons", "set!", "+", "-", "(", "x", "X", "xx", "y", "!", "~", "λ", "", " ", "a b", "x\n", "\x00", "\x80"}
	if r.Intn(3) > 0 {
		return pool[r.Intn(len(pool))]
	}
	s := make([]byte, 1+r.Intn(2))
	for i := range s {
		s[i] = byte('!' + r.Intn('~'-'!'+1))
	}
	return string(s)
}

// TestRowsOfCalls: calls drawn by chance answer what the plain table answers, storms among them.
func TestRowsOfCalls(t *testing.T) {
	for seed := range int64(60) {
		r := rand.New(rand.NewSource(seed))
		var p plain
		table := made(t)
		for range 200 {
			s := someText(r)
			switch r.Intn(6) {
			case 0, 1, 2:
				next, n, e := p.intern(s)
				if gotN, gotE := table.Intern(s); gotN != n || gotE != e {
					t.Fatalf("Intern %q: %d, %d, not %d, %d", s, gotN, gotE, n, e)
				}
				p = next
			case 3:
				n, ok := p.find(s)
				if gotN, gotOk := table.Find(s); gotN != n || gotOk != ok {
					t.Fatalf("Find %q: %d, %t, not %d, %t", s, gotN, gotOk, n, ok)
				}
			case 4:
				n := r.Intn(len(p)+4) - 2
				s, ok := p.name(n)
				if gotS, gotOk := table.Name(n); gotS != s || gotOk != ok {
					t.Fatalf("Name %d: %q, %t, not %q, %t", n, gotS, gotOk, s, ok)
				}
			case 5:
				l := make([]string, r.Intn(6))
				for i := range l {
					l[i] = someText(r)
				}
				p = storms(t, table, p, r.Intn(19)-1, l)
			}
		}
		p.same(t, table)
	}
}
