package once_test

import (
	"math/rand"
	"slices"
	"strconv"
	"strings"
	"testing"

	"dapple/api"
	"dapple/code"
	"dapple/compile"
	"dapple/forms"
	"dapple/names"
	"dapple/once"
	"dapple/read"
)

// outcome is what a source comes to.
type outcome struct {
	code  api.Code
	e     api.Errno
	place int
}

func (o outcome) is(p outcome) bool {
	return code.Same(o.code, p.code) && o.e == p.e && o.place == p.place
}

// plain is what codes do, told once more: by one who does one thing behind the other.
type plain struct {
	table *names.Table
	known map[string]outcome
}

func newPlain() *plain {
	table, _ := names.New()
	return &plain{table, map[string]outcome{}}
}

func (p *plain) get(source string) outcome {
	if _, ok := p.known[source]; !ok {
		p.known[source] = p.make(source)
	}
	return p.known[source]
}

func (p *plain) make(source string) outcome {
	data, e, place := read.Read(source)
	if e != api.OK {
		return outcome{e: e, place: place}
	}
	var l []api.Form
	for i, d := range data {
		f, e, _ := forms.Of(d)
		if e != api.OK {
			return outcome{e: e, place: i}
		}
		l = append(l, f)
	}
	c, e, place := compile.Compile(p.table, l...)
	return outcome{c, e, place}
}

// got is what Get tells.
func got(c *once.Codes, source string) outcome {
	made, e, place := c.Get(source)
	return outcome{made, e, place}
}

// gets holds what Get tells against the plain one.
func gets(t *testing.T, c *once.Codes, p *plain, source string) {
	t.Helper()
	if o, want := got(c, source), p.get(source); !o.is(want) {
		t.Fatalf("Get %.100q: %+v, not %+v", source, o, want)
	}
}

// getsAll holds what All tells against the plain one.
func getsAll(t *testing.T, c *once.Codes, p *plain, workers int, sources []string) {
	t.Helper()
	l, errs := c.All(workers, sources...)
	if len(l) != len(sources) || len(errs) != len(sources) {
		t.Fatalf("All by %d: %d codes and %d errors of %d sources", workers, len(l), len(errs), len(sources))
	}
	for i, source := range sources {
		want := p.get(source)
		if !code.Same(l[i], want.code) || errs[i] != want.e {
			t.Fatalf("All by %d, %.300q: at %d %+v, %d, not %+v", workers, sources, i, l[i], errs[i], want)
		}
	}
}

// counts holds Made and Names against the plain one.
func counts(t *testing.T, c *once.Codes, p *plain) {
	t.Helper()
	if c.Made() != len(p.known) {
		t.Fatalf("Made: %d, not %d", c.Made(), len(p.known))
	}
	if got, want := c.Names(), p.table.All(); !slices.Equal(got, want) {
		t.Fatalf("Names: %.300q, not %.300q", got, want)
	}
}

// drawnSource is one of not so many; some of them are none.
func drawnSource(r *rand.Rand) string {
	one := func(l ...string) string { return l[r.Intn(len(l))] }
	symbol := func() string { return string(rune('a' + r.Intn(12))) }
	var parts []string
	for range r.Intn(4) {
		switch r.Intn(6) {
		case 0:
			parts = append(parts, one("1", "x", "(car x)", "(lambda (x) (+ x y))", "(let ((x 1)) x)", "; nothing\n"))
		case 1, 2:
			parts = append(parts, "'"+symbol())
		case 3:
			parts = append(parts, "'("+symbol()+" ("+symbol()+" . 5) "+symbol()+")")
		case 4:
			parts = append(parts, "(define "+one("x", "y", "z")+" '"+symbol()+")")
		case 5:
			parts = append(parts, "(lambda ("+one("x", "y")+") (f '"+symbol()+" '"+symbol()+"))")
		}
	}
	if r.Intn(4) == 0 {
		parts = append(parts, one("(", ")", "\"", "1a", "(if)", "(car '"+symbol()+" 2)", "if", "(lambda (x x) 1)", "(set! car '"+symbol()+")", tooMuch("'"+symbol())))
		if r.Intn(2) == 0 {
			parts = append(parts, "'"+symbol())
		}
	}
	return strings.Join(parts, " ")
}

// drawnSources are some, of which some are the same.
func drawnSources(r *rand.Rand, most int) []string {
	var out []string
	for range r.Intn(most + 1) {
		if len(out) > 0 && r.Intn(4) == 0 {
			out = append(out, out[r.Intn(len(out))])
		} else {
			out = append(out, drawnSource(r))
		}
	}
	return out
}

// tooMuch is a form that is one, but is more than can be compiled: a call with too many arguments, of which the first one is given.
func tooMuch(first string) string { return "(f " + first + strings.Repeat(" 1", 299) + ")" }

// defines are so many definitions of unlike names, which all have the same value.
func defines(n int, value string) string {
	var b strings.Builder
	for i := range n {
		b.WriteString("(define x" + strconv.Itoa(i) + " " + value + ") ")
	}
	return b.String()
}

// quotes quotes the symbols with these letters ahead of numbers, from one up to another.
func quotes(ahead string, from, to int) string {
	var b strings.Builder
	for i := from; i < to; i++ {
		b.WriteString("'" + ahead + strconv.Itoa(i) + " ")
	}
	return b.String()
}

// quoted are the symbols of quotes.
func quoted(ahead string, from, to int) []string {
	var out []string
	for i := from; i < to; i++ {
		out = append(out, ahead+strconv.Itoa(i))
	}
	return out
}
