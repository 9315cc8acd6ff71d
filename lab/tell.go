package lab

import (
	"slices"
	"strconv"
	"strings"

	"dapple/api"
	"dapple/words"
)

// tell is a line of these parts.
func tell(parts ...string) string { return strings.Join(parts, " ") + "\n" }

// tellNumbers is a line of a word, and numbers.
func tellNumbers(word string, l ...int) string {
	return tell(slices.Concat([]string{word}, numbersText(l))...)
}

// tellWords is a line of a word, and words of api's.
func tellWords(word string, l []api.Word) string {
	parts := []string{word}
	for _, w := range l {
		parts = append(parts, wordText(w))
	}
	return tell(parts...)
}

// tellError is an error, and its place, where that is told.
func tellError(e api.Errno, place ...int) string {
	return tellNumbers("error", slices.Concat([]int{int(e)}, place)...)
}

// tellOK is what is told of a call that answers an error alone.
func tellOK(e api.Errno) string {
	if e != api.OK {
		return tellError(e)
	}
	return tell("ok")
}

// tellText is a line of a word and a text, in which blanks stand for newlines.
func tellText(word, text string) string { return tell(word, strings.ReplaceAll(text, "\n", " ")) }

// tellStep is a step.
func tellStep(x api.Event) string {
	yes := "n"
	if x.Yes {
		yes = "y"
	}
	parts := numbersText([]int{x.Actor, int(x.What), x.Cell, x.Field})
	parts = append(parts, wordText(x.Old), wordText(x.New), strconv.Itoa(x.Other), yes, strconv.Itoa(int(x.Err)))
	return tell(append(parts, numbersText(x.Shaded)...)...)
}

func numbersText(l []int) []string {
	out := make([]string, len(l))
	for i, n := range l {
		out[i] = strconv.Itoa(n)
	}
	return out
}

// wordText is a word of api's.
func wordText(w api.Word) string {
	tag, n, ok := words.Of(w)
	if !ok {
		return "?"
	}
	number := strconv.FormatInt(n, 10)
	switch tag {
	case api.TagNil:
		return "nil"
	case api.TagFalse:
		return "false"
	case api.TagTrue:
		return "true"
	case api.TagInt:
		return "i" + number
	case api.TagSymbol:
		return "s" + number
	case api.TagPrim:
		return "p" + number
	case api.TagRef:
		return "@" + number
	default:
		return "none"
	}
}
