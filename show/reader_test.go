package show_test

import (
	"slices"
	"strconv"
	"strings"
	"testing"

	"dapple/api"
)

// reader lays what a shown text tells into a heap. It panics where a text is none.
type reader struct {
	left   string
	names  []string
	cells  []api.Cell
	labels []int // the cells of the labels that have come
	again  int   // how often labels came again
}

// read is the heap and the word that a text tells of, and its reader.
func read(text string, names []string) ([]api.Cell, api.Word, *reader) {
	r := &reader{left: text, names: names}
	w := r.word(-1)
	if r.left != "" {
		panic("more stands behind: " + r.left)
	}
	return r.cells, w, r
}

func (r *reader) eat(s string) bool {
	rest, ok := strings.CutPrefix(r.left, s)
	if ok {
		r.left = rest
	}
	return ok
}

func (r *reader) must(s string) {
	if !r.eat(s) {
		panic(s + " is missing: " + r.left)
	}
}

// number reads digits without noughts ahead.
func (r *reader) number() int {
	end := 0
	for end < len(r.left) && '0' <= r.left[end] && r.left[end] <= '9' {
		end++
	}
	n, err := strconv.Atoi(r.left[:end])
	if err != nil || strconv.Itoa(n) != r.left[:end] {
		panic("no number: " + r.left)
	}
	r.left = r.left[end:]
	return n
}

// lay is a new cell, which has a label, if that is not -1.
func (r *reader) lay(kind api.Kind, label int) int {
	if label >= 0 {
		if label != len(r.labels) {
			panic("labels don't come in order: " + r.left)
		}
		r.labels = append(r.labels, len(r.cells))
	}
	r.cells = append(r.cells, api.Cell{Kind: kind, A: word("nil"), B: word("nil")})
	return len(r.cells) - 1
}

// word reads one; it must be a cell's, if there is a label ahead of it.
func (r *reader) word(label int) api.Word {
	switch {
	case label < 0 && r.eat("()"):
		return word("nil")
	case r.eat("("):
		return r.list(r.lay(api.KindPair, label))
	case r.eat("#box("):
		cell := r.lay(api.KindBox, label)
		a := r.word(-1)
		r.cells[cell].A = a
		r.must(")")
		return ref(cell)
	case r.eat("#proc"):
		cell := r.lay(api.KindClosure, label)
		r.cells[cell].A = bits(api.TagInt, int64(r.number()))
		r.must("(")
		b := r.word(-1)
		r.cells[cell].B = b
		r.must(")")
		return ref(cell)
	case label >= 0:
		panic("a label ahead of no cell: " + r.left)
	case r.eat("#prim"):
		return bits(api.TagPrim, int64(r.number()))
	}
	return r.plain()
}

// list reads what stands within a list that begins with a pair.
func (r *reader) list(first int) api.Word {
	cell := first
	for {
		a := r.word(-1)
		r.cells[cell].A = a
		switch {
		case r.eat(")"):
			return ref(first)
		case r.eat(" . "):
			b := r.word(-1)
			r.cells[cell].B = b
			r.must(")")
			return ref(first)
		}
		r.must(" ")
		next := r.lay(api.KindPair, -1)
		r.cells[cell].B = ref(next)
		cell = next
	}
}

// plain reads what has no brackets.
func (r *reader) plain() api.Word {
	end := strings.IndexAny(r.left+")", "() ")
	text := r.left[:end]
	if at := slices.Index([]string{"#f", "#t", "#none"}, text); at >= 0 {
		r.left = r.left[end:]
		return word(text)
	}
	if r.eat("#") {
		label := r.number()
		if r.eat("=") {
			return r.word(label)
		}
		r.must("#")
		r.again++
		return ref(r.labels[label])
	}
	r.left = r.left[end:]
	if at := slices.Index(r.names, text); at >= 0 {
		return bits(api.TagSymbol, int64(at))
	}
	n, err := strconv.ParseInt(text, 10, 64)
	if err != nil || strconv.FormatInt(n, 10) != text {
		panic("no text: " + text)
	}
	return bits(api.TagInt, n)
}

// TestTextsOfTexts: what a text tells of is shown as that text.
func TestTextsOfTexts(t *testing.T) {
	for _, s := range []string{
		"()", "#f", "#t", "#none", "0", "-7", "a", "b", "c#0=", "#prim22", "(1 2)", "(1 2 . 3)", "((1) (2 . b) () . #none)", "#box(())", "#proc0(#proc12(#box((1))))",
		"#0=(1 . #0#)", "(#0=#box(7) . #0#)", "(1 . #0=(#0#))", "#0=(#1=(#2=#box(#0#) . #1#) . #2#)", "(#0=(1) #1=(2) #1# #0# #0# . #1#)",
		"#0=#box((1 #proc3(#1=(a . #1#)) . #0#))", "(c#0= #0=(c#0=) . #0#)",
	} {
		h, w, _ := read(s, names())
		shows(t, h, w, s)
		shows(t, turned(h), moved(h, w), s)
	}
}

// moved is a word of a heap, as it stands in the heap that is turned.
func moved(h []api.Cell, w api.Word) api.Word {
	if w%16 == 8 {
		return ref(len(h) - 1 - int(w>>4))
	}
	return w
}
