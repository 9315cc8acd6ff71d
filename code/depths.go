package code

import (
	"dapple/api"
)

// arrival is a way that comes to a place, with its depth.
type arrival struct {
	place int
	depth int
}

// arrivals are the depths with which ways come to a place. Two are enough: the place is wrong then, whatever else comes, and so is each place behind it, to which both lead on.
type arrivals struct {
	depths [2]int
	count  int
}

// isNew tells whether a depth leads to something that is not known yet.
func (a arrivals) isNew(depth int) bool {
	return a.count == 0 || a.count == 1 && a.depths[0] != depth
}

// isWrong tells whether a place with these is wrong, if its instruction takes so many words.
func (a arrivals) isWrong(takes int) bool {
	return a.count != 1 || a.depths[0] < takes || a.depths[0] >= api.MaxStack
}

// walk goes all ways through a procedure.
type walk struct {
	met  []arrivals // by places
	left []arrival  // behind which it is still to go on
}

// come lays down that a way comes to a place.
func (w *walk) come(place, depth int) {
	met := &w.met[place]
	if !met.isNew(depth) {
		return
	}
	met.depths[met.count] = depth
	met.count++
	w.left = append(w.left, arrival{place, depth})
}

// pass goes on behind the instruction i, at which a way came.
func (w *walk) pass(from arrival, i api.Instr) {
	depth := from.depth - takes(i) + puts(i)
	if i.Op == api.OpJump || i.Op == api.OpBranch {
		w.come(i.A, depth)
	}
	if !ends(i.Op) {
		w.come(from.place+1, depth)
	}
}

// leastWrong is the least place that is wrong by its depths; false, if there is none. All else must be right in the instructions already.
func leastWrong(code []api.Instr) (int, bool) {
	w := walk{met: make([]arrivals, len(code))}
	w.come(0, 0)
	for len(w.left) > 0 {
		last := len(w.left) - 1
		from := w.left[last]
		w.left = w.left[:last]
		w.pass(from, code[from.place])
	}
	for place, i := range code {
		if w.met[place].isWrong(takes(i)) {
			return place, true
		}
	}
	return 0, false
}
