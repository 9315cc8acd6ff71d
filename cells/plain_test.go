package cells_test

import (
	"math/rand"

	"dapple/api"
	"dapple/cells"
	"dapple/words"
)

// what a call is.
type what int

const (
	load what = iota
	swap
	cas
	add
	head
	shade
	turn
	fill // Make
	drop
	whats
)

// call is a call of a heap; each what takes of it what it needs: Cas exchanges v for w, Turn goes from d to c, Make lays w and v.
type call struct {
	what        what
	cell, field int
	kind        api.Kind
	c, d        api.Colour
	w, v        api.Word
}

// answer is all that a call may answer.
type answer struct {
	w    api.Word
	yes  bool
	kind api.Kind
	c    api.Colour
	e    api.Errno
}

// ask makes the call of a heap.
func ask(h *cells.Heap, c call) (a answer) {
	switch c.what {
	case load:
		a.w, a.e = h.Load(c.cell, c.field)
	case swap:
		a.w, a.e = h.Swap(c.cell, c.field, c.w)
	case cas:
		a.w, a.yes, a.e = h.Cas(c.cell, c.field, c.v, c.w)
	case add:
		a.w, a.e = h.Add(c.cell, c.field, c.w)
	case head:
		a.kind, a.c, a.e = h.Head(c.cell)
	case shade:
		a.yes = h.Shade(c.cell)
	case turn:
		a.yes = h.Turn(c.cell, c.d, c.c)
	case fill:
		a.e = h.Make(c.cell, c.kind, c.c, c.w, c.v)
	case drop:
		a.e = h.Drop(c.cell)
	}
	return a
}

// small is a heap of four cells as a plain value: to keep one is to copy it.
type small [4]api.Cell

// ask is what the document says of the call: what the heap is then, and the answer.
func (p small) ask(c call) (small, answer) {
	if c.cell < 0 || c.cell > 3 {
		if c.what == shade || c.what == turn {
			return p, answer{}
		}
		return p, answer{e: api.ErrArg}
	}
	if c.what <= add {
		if c.field < 0 || c.field > 1 {
			return p, answer{e: api.ErrArg}
		}
		return p.askField(c)
	}
	next, a := askCell(p[c.cell], c)
	p[c.cell] = next
	return p, a
}

// askField is what is said of Load, Swap, Cas and Add, of a field that there is.
func (p small) askField(c call) (small, answer) {
	if p[c.cell].Kind == api.KindFree {
		return p, answer{e: api.ErrCellsNone}
	}
	there := &p[c.cell].A
	if c.field == 1 {
		there = &p[c.cell].B
	}
	was := *there
	switch c.what {
	case swap:
		*there = c.w
	case cas:
		if was == c.v {
			*there = c.w
		}
		return p, answer{w: was, yes: was == c.v}
	case add:
		sum, e := words.Add(was, c.w)
		if e == api.OK {
			*there = sum
		}
		return p, answer{w: sum, e: e}
	}
	return p, answer{w: was}
}

// askCell is what is said of the calls of a whole cell, of one that there is.
func askCell(x api.Cell, c call) (api.Cell, answer) {
	free := x.Kind == api.KindFree
	switch {
	case c.what == head:
		return x, answer{kind: x.Kind, c: x.Colour}
	case c.what == fill && (c.kind < 1 || c.kind > 3 || c.c > 2):
		return x, answer{e: api.ErrCellsForm}
	case c.what == fill && !free:
		return x, answer{e: api.ErrCellsNone}
	case c.what == fill:
		return api.Cell{Kind: c.kind, Colour: c.c, A: c.w, B: c.v}, answer{}
	case c.what == drop && free:
		return x, answer{e: api.ErrCellsNone}
	case c.what == drop:
		return api.Cell{}, answer{}
	case c.what == shade && !free && x.Colour == api.White:
		x.Colour = api.Grey
		return x, answer{yes: true}
	case c.what == turn && !free && x.Colour == c.d && c.c <= 2:
		x.Colour = c.c
		return x, answer{yes: true}
	}
	return x, answer{}
}

const (
	greatest = int64(1)<<59 - 1
	least    = -int64(1) << 59
)

// integer is the word of a number, reckoned without package words.
func integer(n int64) api.Word { return api.Word(n)*16 + 5 }

const none = api.Word(1) // nil

// someWords are integers, other words, and numbers that are no words.
func someWords() []api.Word {
	return []api.Word{
		integer(0), integer(1), integer(-1), integer(5), integer(-7), integer(greatest), integer(least), integer(greatest - 1), integer(least + 1),
		none, 2, 3, 4, 6, 7 + 16, 8, 8 + 16*3, 8 + 16*4000, 0, 9, 15, 17, 1<<64 - 1, 1 << 63,
	}
}

// someCall is a call drawn by r, most of them of what there is.
func someCall(r *rand.Rand) call {
	w := someWords()
	c := call{
		what: what(r.Intn(int(whats))), cell: r.Intn(4), field: r.Intn(2), kind: api.Kind(1 + r.Intn(3)),
		c: api.Colour(r.Intn(3)), d: api.Colour(r.Intn(3)), w: w[r.Intn(len(w))], v: w[r.Intn(len(w))],
	}
	if r.Intn(3) == 0 {
		c.w, c.v = integer(int64(r.Intn(3))), integer(int64(r.Intn(3)))
	}
	switch r.Intn(40) {
	case 0:
		c.cell = []int{-1, 4, -1 << 63, 1<<63 - 1, 1 << 32, 4096}[r.Intn(6)]
	case 1:
		c.field = []int{-1, 2, -1 << 63, 1<<63 - 1, 1 << 32, 3}[r.Intn(6)]
	case 2:
		c.kind = []api.Kind{0, 4, 255, 128}[r.Intn(4)]
	case 3:
		c.c = []api.Colour{3, 4, 255, 128}[r.Intn(4)]
	case 4:
		c.d = []api.Colour{3, 4, 255, 128}[r.Intn(4)]
	case 5:
		c.cell, c.field, c.kind, c.c = 4, 2, 4, 3
	}
	return c
}
