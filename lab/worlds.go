package lab

import (
	"slices"
	"strconv"
	"strings"

	"dapple/api"
	"dapple/barrier"
	"dapple/graph"
	"dapple/par"
	"dapple/show"
)

func (h *hand) start(g given) string {
	thread, e := h.world.Start(g.numbers[0])
	if e != api.OK {
		return tellError(e)
	}
	return tellNumbers("thread", thread)
}

func (h *hand) collect(given) string { return tellOK(h.world.Collect()) }

func (h *hand) ready(given) string { return tellNumbers("ready", h.world.Ready()...) }

func (h *hand) pick(g given) string {
	step, did := h.world.Pick(uint32(g.numbers[0]))
	if !did {
		return tell("idle")
	}
	return tellStep(step)
}

func (h *hand) settle(g given) string { return tellNumbers("settled", h.world.Settle(g.numbers[0])) }

func (h *hand) phase(given) string {
	phase, begun := h.world.Phase()
	return tellNumbers("phase", int(phase), begun, h.world.Steps())
}

func (h *hand) heap(given) string {
	var cells strings.Builder
	count := 0
	for i, c := range h.world.Heap() {
		if c.Kind != api.KindFree {
			count++
			cells.WriteString(tell(strconv.Itoa(i), strconv.Itoa(int(c.Kind)), strconv.Itoa(int(c.Colour)), wordText(c.A), wordText(c.B)))
		}
	}
	return tellNumbers("heap", count) + cells.String()
}

func (h *hand) free(given) string { return tellNumbers("free", h.world.Free()...) }

func (h *hand) waiting(given) string {
	parts := []string{"waiting"}
	for _, w := range h.world.Waiting() {
		parts = append(parts, strconv.Itoa(w.Thread)+":"+strconv.Itoa(w.Begun))
	}
	return tell(parts...)
}

func (h *hand) roots(given) string { return tellWords("roots", h.world.Roots()) }

func (h *hand) globals(given) string { return tellWords("globals", h.world.Globals()) }

func (h *hand) ended(g given) string { return h.ending(h.world, g.numbers[0]) }

// threads are those of a world, or of a baton.
type threads interface {
	Ended(thread int) (api.Ended, api.Errno)
	Heap() []api.Cell
}

// ending is what is told of the end of one of them.
func (h *hand) ending(of threads, thread int) string {
	end, e := of.Ended(thread)
	switch {
	case e != api.OK:
		return tellError(e)
	case !end.Ended:
		return tell("running")
	case end.Err != api.OK:
		return tellError(end.Err)
	}
	return h.shown(of.Heap(), end.Word)
}

func (h *hand) show(g given) string {
	l := h.world.Globals()
	if g.numbers[0] >= len(l) {
		return tell("none")
	}
	return h.shown(h.world.Heap(), l[g.numbers[0]])
}

// shown is a word as a text, with what hangs together with it in a heap.
func (h *hand) shown(heap []api.Cell, w api.Word) string {
	text, e := show.Show(heap, h.table.All(), w)
	if e != api.OK {
		return tellError(e)
	}
	return tellText("=", text)
}

func (h *hand) live(given) string {
	reached, e := graph.Reach(h.world.Heap(), h.world.Roots()...)
	if e != api.OK {
		return tellError(e)
	}
	var cells []int
	for i, is := range reached {
		if is {
			cells = append(cells, i)
		}
	}
	return tellNumbers("live", cells...)
}

func (h *hand) holds(given) string { return holding(h.world.View()) }

// holding tells whether nothing can be lost, in a view.
func holding(v api.View) string {
	ok, cell, e := barrier.Holds(v)
	switch {
	case e != api.OK:
		return tellError(e)
	case !ok:
		return tellNumbers("n", cell)
	}
	return tell("y")
}

func (h *hand) par(g given) string {
	_, freed, sums, e := par.Collect(h.world.Heap(), g.numbers[0], h.world.Roots()...)
	if e != api.OK {
		return tellError(e)
	}
	return tellNumbers("par", slices.Concat([]int{sums.Greyed, sums.Scanned, sums.Freed}, freed)...)
}
