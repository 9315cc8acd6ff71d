package read

import (
	"strconv"
	"strings"

	"dapple/api"
	"dapple/lex"
)

// What a word of chapter 1 can hold.
const (
	leastInt    = -1 << 59
	greatestInt = 1<<59 - 1
)

// check gives up data that cannot be written.
func check(l []api.Datum) {
	var x extent
	for _, d := range l {
		x.add(d, 0)
	}
	// All are looked at ahead of this: one that is none goes before one that is too deep.
	switch {
	case x.depth > api.MaxDepth:
		panic(fault{e: api.ErrReadDeep})
	case x.count > api.MaxData:
		panic(fault{e: api.ErrReadMuch})
	}
}

// extent is how many some data are, and how deep the deepest one is.
type extent struct {
	count, depth int
}

// add takes in a datum that stands within so many lists, and its kids.
func (x *extent) add(d api.Datum, lists int) {
	if !isDatum(d) {
		panic(fault{e: api.ErrReadForm})
	}
	x.count++
	if d.Kind == api.DatumList {
		lists++
		x.depth = max(x.depth, lists)
	}
	for _, kid := range d.Kids {
		x.add(kid, lists)
	}
}

// isDatum tells whether a datum may be, but for what its kids are by themselves.
func isDatum(d api.Datum) bool {
	switch d.Kind {
	case api.DatumInt:
		return Same(d, api.Datum{Kind: d.Kind, N: d.N}) && leastInt <= d.N && d.N <= greatestInt
	case api.DatumSymbol:
		return Same(d, symbol(d.Text)) && lex.IsSymbol(d.Text)
	case api.DatumFalse, api.DatumTrue:
		return Same(d, api.Datum{Kind: d.Kind})
	case api.DatumList:
		return d.N == 0 && d.Text == "" && (!d.Dot || hasTail(d.Kids))
	default:
		return false
	}
}

// hasTail tells whether the last one of some kids may stand behind a dot.
func hasTail(kids []api.Datum) bool {
	return len(kids) >= 2 && kids[len(kids)-1].Kind != api.DatumList
}

// textOf is the text of data that were checked.
func textOf(l []api.Datum) string {
	var b strings.Builder
	for i, d := range l {
		if i > 0 {
			b.WriteByte('\n')
		}
		write(&b, d)
	}
	return b.String()
}

// write writes a datum behind what is written.
func write(b *strings.Builder, d api.Datum) {
	switch {
	case d.Kind == api.DatumInt:
		b.WriteString(strconv.FormatInt(d.N, 10))
	case d.Kind == api.DatumSymbol:
		b.WriteString(d.Text)
	case d.Kind == api.DatumFalse:
		b.WriteString("#f")
	case d.Kind == api.DatumTrue:
		b.WriteString("#t")
	case isQuoted(d):
		b.WriteByte('\'')
		write(b, d.Kids[1])
	default:
		writeList(b, d)
	}
}

// isQuoted tells whether a list is written with a quote.
func isQuoted(d api.Datum) bool {
	return len(d.Kids) == 2 && !d.Dot && Same(d.Kids[0], symbol(quote))
}

func writeList(b *strings.Builder, d api.Datum) {
	b.WriteByte('(')
	for i, kid := range d.Kids {
		if i > 0 {
			b.WriteByte(' ')
		}
		if d.Dot && i == len(d.Kids)-1 {
			b.WriteString(". ")
		}
		write(b, kid)
	}
	b.WriteByte(')')
}
