// Package words is layer 1: see shared/doc/01-words.md.
package words

import (
	"dapple/api"
)

const (
	tagBits = 4
	tagMask = 1<<tagBits - 1

	leastInt    = -1 << 59
	greatestInt = 1<<59 - 1

	// greatestName bounds what a symbol and a reference name.
	greatestName = 1<<31 - 1
)

// span is the least and the greatest of some numbers, both among them.
type span struct {
	least, greatest int64
}

// bounds are the numbers of each tag, at the tag's own place. Place 0 is no tag's.
var bounds = [...]span{
	api.TagNil:    {0, 0},
	api.TagFalse:  {0, 0},
	api.TagTrue:   {0, 0},
	api.TagNone:   {0, 0},
	api.TagInt:    {leastInt, greatestInt},
	api.TagSymbol: {0, greatestName},
	api.TagPrim:   {int64(api.PrimCons), int64(api.PrimError)},
	api.TagRef:    {0, greatestName},
}

// Make is the word of a tag, and a number.
func Make(t api.Tag, n int64) (api.Word, api.Errno) {
	if !isTag(t) {
		return 0, api.ErrWordKind
	}
	if !isNumberOf(t, n) {
		return 0, api.ErrWordOver
	}
	return api.Word(n)<<tagBits | api.Word(t), api.OK
}

// Of is a word's tag and number; false: it is none.
func Of(w api.Word) (api.Tag, int64, bool) {
	t := api.Tag(w & tagMask)
	// The shift is one of a signed number, so that the sign comes along.
	n := int64(w) >> tagBits
	if !isTag(t) || !isNumberOf(t, n) {
		return 0, 0, false
	}
	return t, n, true
}

// isTag tells whether a tag is one that words have.
func isTag(t api.Tag) bool {
	return t >= api.TagNil && int(t) < len(bounds)
}

// isNumberOf tells whether n is a number of t, which must be a tag.
func isNumberOf(t api.Tag, n int64) bool {
	return bounds[t].least <= n && n <= bounds[t].greatest
}

// Int is the word of a number of the language.
func Int(n int64) (api.Word, api.Errno) { return Make(api.TagInt, n) }

// Ref is the reference to a cell.
func Ref(cell int) api.Word {
	// A refused word is 0, which is what Ref answers then.
	w, _ := Make(api.TagRef, int64(cell))
	return w
}

// Cell is the cell that a reference names; false: it is none.
func Cell(w api.Word) (int, bool) {
	t, n, ok := Of(w)
	if !ok || t != api.TagRef {
		return 0, false
	}
	return int(n), true
}

// True tells whether a word counts as true: all but false.
func True(w api.Word) bool {
	t, _, _ := Of(w)
	return t != api.TagFalse
}
