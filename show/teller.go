package show

import (
	"strconv"
	"strings"

	"dapple/api"
	"dapple/words"
)

// teller writes the text of what is seen, from its beginning on.
type teller struct {
	sight
	names  []string
	labels map[int]label
	came   int // how many labels have come in the text
	out    strings.Builder
}

// word writes a word's text; it calls itself for the words that are met with it.
func (t *teller) word(w api.Word) {
	cell, ok := words.Cell(w)
	if !ok {
		t.plain(w)
		return
	}
	if t.comesAgain(cell) {
		return
	}
	c := t.cells[cell]
	switch c.Kind {
	case api.KindPair:
		t.out.WriteByte('(')
		t.word(c.A)
		t.tail(c.B)
	case api.KindBox:
		t.out.WriteString("#box(")
		t.word(c.A)
	case api.KindClosure:
		_, n, _ := words.Of(c.A)
		t.number("#proc", n, "(")
		t.word(c.B)
	}
	t.out.WriteByte(')')
}

// plain writes the text of a word that is no reference.
func (t *teller) plain(w api.Word) {
	tag, n, _ := words.Of(w)
	switch tag {
	case api.TagNil:
		t.out.WriteString("()")
	case api.TagFalse:
		t.out.WriteString("#f")
	case api.TagTrue:
		t.out.WriteString("#t")
	case api.TagNone:
		t.out.WriteString("#none")
	case api.TagInt:
		t.number("", n, "")
	case api.TagSymbol:
		t.out.WriteString(t.names[n])
	case api.TagPrim:
		t.number("#prim", n, "")
	}
}

// comesAgain writes the label of a cell that has one, and tells whether that is all that stands here of it.
func (t *teller) comesAgain(cell int) bool {
	l := t.labels[cell]
	if l.met == 1 {
		return false
	}
	if l.came {
		t.number("#", int64(l.number), "#")
		return true
	}
	t.number("#", int64(t.came), "=")
	t.labels[cell] = label{met: l.met, came: true, number: t.came}
	t.came++
	return false
}

// tail writes what stands behind the first word of a pair. However long a list is, it is no deeper than its words.
func (t *teller) tail(w api.Word) {
	for c, ok := t.goesOn(w); ok; c, ok = t.goesOn(w) {
		t.out.WriteByte(' ')
		t.word(c.A)
		w = c.B
	}
	if tag, _, _ := words.Of(w); tag == api.TagNil {
		return
	}
	t.out.WriteString(" . ")
	t.word(w)
}

// goesOn is the pair with which a list goes on; false: w ends it. A pair that is met elsewhere too must stand by itself, for its label.
func (t *teller) goesOn(w api.Word) (api.Cell, bool) {
	cell, ok := words.Cell(w)
	if !ok || t.cells[cell].Kind != api.KindPair || t.labels[cell].met > 1 {
		return api.Cell{}, false
	}
	return t.cells[cell], true
}

// number writes a number, base ten, between two texts.
func (t *teller) number(ahead string, n int64, behind string) {
	t.out.WriteString(ahead)
	t.out.WriteString(strconv.FormatInt(n, 10))
	t.out.WriteString(behind)
}
