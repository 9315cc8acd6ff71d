package show_test

import (
	"strconv"
	"testing"

	"dapple/api"
)

// TestPlainWords: the rows of the table for words of every tag but a reference, on any heap.
func TestPlainWords(t *testing.T) {
	for w, want := range map[string]string{
		"nil": "()", "#f": "#f", "#t": "#t", "#none": "#none",
		"0": "0", "1": "1", "-1": "-1", "10": "10", "-900": "-900", "576460752303423487": "576460752303423487", "-576460752303423488": "-576460752303423488",
		"s0": "a", "s1": "b", "s2": "c#0=", "p1": "#prim1", "p9": "#prim9", "p10": "#prim10", "p22": "#prim22",
	} {
		for _, h := range []string{"", "pair 1 c0", "free x0 x0"} {
			shows(t, heap(h), word(w), want)
		}
		shows(t, heap("box "+w+" nil"), ref(0), "#box("+want+")")
		shows(t, heap("closure 12 "+w), ref(0), "#proc12("+want+")")
		shows(t, heap("pair "+w+" nil"), ref(0), "("+want+")")
		shows(t, heap("pair "+w+" c1, pair "+w+" nil"), ref(0), "("+want+" "+want+")")
		if w != "nil" {
			shows(t, heap("pair "+w+" "+w), ref(0), "("+want+" . "+want+")")
		}
	}
	for n := int64(1); n <= 22; n++ {
		shows(t, nil, bits(api.TagPrim, n), "#prim"+strconv.FormatInt(n, 10))
	}
}

// TestCells: one in another, each kind in each field.
func TestCells(t *testing.T) {
	inner := map[string]string{"pair 1 2": "(1 . 2)", "box 3 nil": "#box(3)", "closure 4 5": "#proc4(5)", "pair nil nil": "(())", "box nil nil": "#box(())", "closure 0 nil": "#proc0(())"}
	for cell, text := range inner {
		shows(t, heap(cell), ref(0), text)
		shows(t, heap("pair c1 nil, "+cell), ref(0), "("+text+")")
		shows(t, heap("pair c1 6, "+cell), ref(0), "("+text+" . 6)")
		shows(t, heap("box c1 nil, "+cell), ref(0), "#box("+text+")")
		shows(t, heap("closure 7 c1, "+cell), ref(0), "#proc7("+text+")")
		for other, otherText := range inner {
			shows(t, heap("pair c1 c2, "+cell+", pair c3 nil, "+other), ref(0), "("+text+" "+otherText+")")
		}
	}
}

// TestTails: with and without a last tail, of pairs and of other cells.
func TestTails(t *testing.T) {
	for h, want := range map[string]string{
		"pair 1 nil":                                  "(1)",
		"pair 1 2":                                    "(1 . 2)",
		"pair 1 #f":                                   "(1 . #f)",
		"pair 1 #none":                                "(1 . #none)",
		"pair 1 p3":                                   "(1 . #prim3)",
		"pair nil nil":                                "(())",
		"pair nil c1, pair nil nil":                   "(() ())",
		"pair 1 c1, pair 2 c2, pair 3 nil":            "(1 2 3)",
		"pair 1 c1, pair 2 c2, pair 3 -4":             "(1 2 3 . -4)",
		"pair 1 c1, box 2 nil":                        "(1 . #box(2))",
		"pair 1 c1, pair 2 c2, box 3 nil":             "(1 2 . #box(3))",
		"pair 1 c1, closure 2 3":                      "(1 . #proc2(3))",
		"pair 1 c1, pair 2 c2, closure 3 c3, box 4 4": "(1 2 . #proc3(#box(4)))",
		"pair 1 c1, box c2 nil, pair 3 nil":           "(1 . #box((3)))",
		"pair c1 c2, pair 1 nil, pair 2 nil":          "((1) 2)",
		"pair c1 c2, pair 1 2, pair 3 4":              "((1 . 2) 3 . 4)",
		"box c1 nil, pair 1 c2, pair 2 nil":           "#box((1 2))",
		"closure 1 c1, pair 1 c2, pair 2 nil":         "#proc1((1 2))",
	} {
		shows(t, heap(h), ref(0), want)
	}
}

// TestTailsThatAreMetTwice: a pair with a label stands behind a dot, whatever comes behind it.
func TestTailsThatAreMetTwice(t *testing.T) {
	for h, want := range map[string]string{
		// It comes again in itself, in its own tail, in what stands ahead.
		"pair 1 c1, pair c1 nil":                                            "(1 . #0=(#0#))",
		"pair 1 c1, pair 2 c1":                                              "(1 . #0=(2 . #0#))",
		"pair 1 c1, pair 2 c2, pair 3 c1":                                   "(1 . #0=(2 3 . #0#))",
		"pair 1 c1, pair 2 c0":                                              "#0=(1 2 . #0#)",
		"pair c1 c1, pair 2 nil":                                            "(#0=(2) . #0#)",
		"pair c1 c2, pair 2 nil, pair 3 c1":                                 "(#0=(2) 3 . #0#)",
		"pair c2 c1, pair 2 c2, pair 3 nil":                                 "(#0=(3) 2 . #0#)",
		"pair c2 c1, pair 2 c2, pair 3 c3, pair 4 nil":                      "(#0=(3 4) 2 . #0#)",
		"pair c1 c2, box c2 nil, pair 3 nil":                                "(#box(#0=(3)) . #0#)",
		"pair 1 c1, pair c2 c2, box 1 nil":                                  "(1 #0=#box(1) . #0#)",
		"pair 1 c1, pair c2 c2, closure 1 2":                                "(1 #0=#proc1(2) . #0#)",
		"pair 1 c1, pair c3 c2, pair 5 nil, box c2 nil":                     "(1 #box(#0=(5)) . #0#)",
		"pair 1 c1, pair 2 c2, pair 3 c3, pair c3 c2":                       "(1 2 . #0=(3 . #1=(#1# . #0#)))",
		"pair 1 c1, pair c1 c2, pair c1 c3, pair c2 nil":                    "(1 . #0=(#0# . #1=(#0# #1#)))",
		"pair 1 c1, pair 2 c2, box c1 nil":                                  "(1 . #0=(2 . #box(#0#)))",
		"pair 1 c1, pair 2 c2, closure 7 c1":                                "(1 . #0=(2 . #proc7(#0#)))",
		"pair 1 c1, box c1 nil":                                             "(1 . #0=#box(#0#))",
		"pair 1 c1, closure 8 c1":                                           "(1 . #0=#proc8(#0#))",
		"pair c1 c2, pair 1 c3, pair 2 c3, pair 3 nil":                      "((1 . #0=(3)) 2 . #0#)",
		"pair c1 c2, pair 1 c3, pair 2 c4, pair 3 c5, pair c3 6, box 4 nil": "((1 . #0=(3 . #box(4))) 2 #0# . 6)",
	} {
		shows(t, heap(h), ref(0), want)
	}
}

// TestRings: of one, two, three cells, through each field of each kind, from each cell of them.
func TestRings(t *testing.T) {
	for h, want := range map[string][]string{
		"pair c0 nil":                              {"#0=(#0#)"},
		"pair 1 c0":                                {"#0=(1 . #0#)"},
		"pair c0 c0":                               {"#0=(#0# . #0#)"},
		"box c0 nil":                               {"#0=#box(#0#)"},
		"closure 3 c0":                             {"#0=#proc3(#0#)"},
		"pair 1 c1, pair 2 c0":                     {"#0=(1 2 . #0#)", "#0=(2 1 . #0#)"},
		"pair c1 1, pair c0 2":                     {"#0=((#0# . 2) . 1)", "#0=((#0# . 1) . 2)"},
		"pair c1 1, pair 2 c0":                     {"#0=((2 . #0#) . 1)", "#0=(2 #0# . 1)"},
		"box c1 nil, box c0 nil":                   {"#0=#box(#box(#0#))", "#0=#box(#box(#0#))"},
		"box c1 nil, closure 5 c0":                 {"#0=#box(#proc5(#0#))", "#0=#proc5(#box(#0#))"},
		"pair 1 c1, box c0 nil":                    {"#0=(1 . #box(#0#))", "#0=#box((1 . #0#))"},
		"pair 1 c1, closure 6 c0":                  {"#0=(1 . #proc6(#0#))", "#0=#proc6((1 . #0#))"},
		"pair c1 c1, pair c0 c0":                   {"#0=(#1=(#0# . #0#) . #1#)", "#0=(#1=(#0# . #0#) . #1#)"},
		"pair c0 c1, pair c1 c0":                   {"#0=(#0# . #1=(#1# . #0#))", "#0=(#0# . #1=(#1# . #0#))"},
		"pair 1 c1, pair 2 c2, pair 3 c0":          {"#0=(1 2 3 . #0#)", "#0=(2 3 1 . #0#)", "#0=(3 1 2 . #0#)"},
		"pair 1 c1, box c2 nil, closure 2 c0":      {"#0=(1 . #box(#proc2(#0#)))", "#0=#box(#proc2((1 . #0#)))", "#0=#proc2((1 . #box(#0#)))"},
		"pair c1 nil, pair c2 nil, pair c0 nil":    {"#0=(((#0#)))", "#0=(((#0#)))", "#0=(((#0#)))"},
		"pair 1 c1, pair 2 c2, pair 3 c1":          {"(1 . #0=(2 3 . #0#))", "#0=(2 3 . #0#)", "#0=(3 2 . #0#)"},
		"closure 1 c1, closure 2 c2, closure 3 c2": {"#proc1(#proc2(#0=#proc3(#0#)))", "#proc2(#0=#proc3(#0#))", "#0=#proc3(#0#)"},
	} {
		for at, text := range want {
			shows(t, heap(h), ref(at), text)
		}
	}
}

// TestLabels: which cells have one, and their numbers in the order in which they come first in the text.
func TestLabels(t *testing.T) {
	for h, want := range map[string]string{
		// Twice, three times, four times.
		"pair c1 c1, box 1 nil":                           "(#0=#box(1) . #0#)",
		"pair c1 c2, box 1 nil, pair c1 c1":               "(#0=#box(1) #0# . #0#)",
		"pair c1 c2, box 1 nil, pair c1 c3, pair c1 c1":   "(#0=#box(1) #0# #0# . #0#)",
		"pair c1 c2, closure 1 2, pair c3 c1, box c1 nil": "(#0=#proc1(2) #box(#0#) . #0#)",
		// Labels within labels: the outer one comes first.
		"pair c1 c1, pair c2 c2, box 1 nil":                          "(#0=(#1=#box(1) . #1#) . #0#)",
		"pair c1 c1, box c2 nil, pair c3 c3, closure 9 nil":          "(#0=#box((#1=#proc9(()) . #1#)) . #0#)",
		"pair c1 c1, pair c2 c2, pair c3 c3, pair c4 c4, box c0 nil": "#0=(#1=(#2=(#3=(#4=#box(#0#) . #4#) . #3#) . #2#) . #1#)",
		"pair c1 c2, pair c2 c1, box c0 nil":                         "#0=(#1=(#2=#box(#0#) . #1#) . #2#)",
		// Side by side: not by the cells' numbers, nor by the order in which they end.
		"pair c3 c1, pair c2 c4, box 2 nil, box 3 nil, pair c2 c3": "(#0=#box(3) #1=#box(2) #1# . #0#)",
		"pair c2 c1, pair c3 c4, box c3 nil, box 3 nil, pair 5 c2": "(#0=#box(#1=#box(3)) #1# 5 . #0#)",
		"pair 1 c1, pair c2 c3, box c3 nil, pair 2 c2":             "(1 #0=#box(#1=(2 . #0#)) . #1#)",
		// What comes once beside what comes twice.
		"pair c1 c2, box 1 nil, pair c3 c4, box 1 nil, pair c1 nil": "(#0=#box(1) #box(1) #0#)",
		"box c1 nil, pair c2 c3, pair 1 nil, pair c2 nil":           "#box((#0=(1) #0#))",
		"closure 1 c1, pair c2 c3, pair 1 c0, pair c2 nil":          "#0=#proc1((#1=(1 . #0#) #1#))",
	} {
		shows(t, heap(h), ref(0), want)
	}
}

// TestManyLabels: more than have one digit.
func TestManyLabels(t *testing.T) {
	const many = 101
	var h []api.Cell
	want := "("
	for i := range many {
		h = append(h, api.Cell{Kind: api.KindPair, A: ref(many + i), B: ref(i + 1)})
	}
	for i := range many {
		h = append(h, api.Cell{Kind: api.KindPair, A: ref(2*many + i), B: ref(2*many + i)})
		n := strconv.Itoa(i)
		want += "(#" + n + "=#box(" + n + ") . #" + n + "#) "
	}
	for i := range many {
		h = append(h, api.Cell{Kind: api.KindBox, A: bits(api.TagInt, int64(i)), B: word("nil")})
	}
	h[many-1].B = ref(3*many - 1)
	shows(t, h, ref(0), want[:len(want)-1]+" . #100#)")
	h[many-1].B = word("nil")
	shows(t, h, ref(0), want[:len(want)-1]+")")
}

// TestColours: they are not seen.
func TestColours(t *testing.T) {
	for colours := range 9 {
		h := heap("pair 1 c1, pair c1 nil")
		h[0].Colour, h[1].Colour = api.Colour(colours%3), api.Colour(colours/3)
		shows(t, h, ref(0), "(1 . #0=(#0#))")
		alike(t, h, ref(0), heap("pair c0 nil, pair 1 c0"), ref(1), true)
	}
}
