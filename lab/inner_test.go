package lab

import (
	"math"
	"testing"

	"dapple/api"
	"dapple/words"
)

// made is the word of a tag, and a number.
func made(t *testing.T, tag api.Tag, n int64) api.Word {
	t.Helper()
	w, e := words.Make(tag, n)
	if e != api.OK {
		t.Fatal(tag, n, e)
	}
	return w
}

// TestWordTexts: words of each tag, and what is none.
func TestWordTexts(t *testing.T) {
	for _, row := range []struct {
		w    api.Word
		want string
	}{
		{made(t, api.TagNil, 0), "nil"},
		{made(t, api.TagFalse, 0), "false"},
		{made(t, api.TagTrue, 0), "true"},
		{made(t, api.TagNone, 0), "none"},
		{made(t, api.TagInt, 0), "i0"},
		{made(t, api.TagInt, 5), "i5"},
		{made(t, api.TagInt, -7), "i-7"},
		{made(t, api.TagInt, 1<<59-1), "i576460752303423487"},
		{made(t, api.TagInt, -1<<59), "i-576460752303423488"},
		{made(t, api.TagSymbol, 0), "s0"},
		{made(t, api.TagSymbol, 4095), "s4095"},
		{made(t, api.TagPrim, 1), "p1"},
		{made(t, api.TagPrim, 22), "p22"},
		{words.Ref(0), "@0"},
		{words.Ref(4095), "@4095"},
		{0, "?"},
		{math.MaxUint64, "?"},
		{9, "?"},
	} {
		if _, _, ok := words.Of(row.w); ok != (row.want != "?") {
			t.Fatal(row.w, ok)
		}
		if got := wordText(row.w); got != row.want {
			t.Errorf("%d: %q, not %q", row.w, got, row.want)
		}
	}
}

// TestStepTexts: each field at its place, also such as no world answers.
func TestStepTexts(t *testing.T) {
	for _, row := range []struct {
		x    api.Event
		want string
	}{
		{api.Event{}, "0 0 0 0 ? ? 0 n 0\n"},
		{api.Event{Actor: 1, What: 2, Cell: 3, Field: 4, Old: words.Ref(5), New: words.Ref(6), Other: 7, Yes: true, Err: 8, Shaded: []int{9, 10}}, "1 2 3 4 @5 @6 7 y 8 9 10\n"},
		{api.Event{Actor: -1, Cell: -3, Field: -4, Other: -7, Err: -8, Shaded: []int{-9}}, "-1 0 -3 -4 ? ? -7 n -8 -9\n"},
		{api.Event{What: 255, Cell: 4095, Other: 1000000, Err: api.ErrLabLong}, "0 255 4095 0 ? ? 1000000 n 261\n"},
	} {
		if got := tellStep(row.x); got != row.want {
			t.Errorf("%+v: %q, not %q", row.x, got, row.want)
		}
	}
}

// TestLines: one blank between two words; numbers below 0; a text whose newlines are told as blanks.
func TestLines(t *testing.T) {
	for _, row := range [][2]string{
		{tell("ok"), "ok\n"},
		{tell("a", "b", "c"), "a b c\n"},
		{tellNumbers("live"), "live\n"},
		{tellNumbers("live", 0, -5, 12), "live 0 -5 12\n"},
		{tellWords("roots", nil), "roots\n"},
		{tellWords("roots", []api.Word{words.Ref(1), 0}), "roots @1 ?\n"},
		{tellError(70), "error 70\n"},
		{tellError(70, 0), "error 70 0\n"},
		{tellOK(api.OK), "ok\n"},
		{tellOK(api.ErrArg), "error 1\n"},
		{tellText("=", "a\nb\n\nc"), "= a b  c\n"},
	} {
		if row[0] != row[1] {
			t.Errorf("%q, not %q", row[0], row[1])
		}
	}
}

// TestHolding: a view in which the rule holds, one in which it does not, and one that may not be.
func TestHolding(t *testing.T) {
	null := made(t, api.TagNil, 0)
	pair := api.Cell{Kind: api.KindPair, A: null, B: null}
	v := api.View{Cells: []api.Cell{{}, {}, pair}, Phase: api.PhaseMark, Lanes: []api.Lane{{Roots: []api.Word{words.Ref(2)}}}}
	if s := holding(v); s != "y\n" {
		t.Errorf("%q", s)
	}
	v.Lanes[0].Scanned = true
	if s := holding(v); s != "n 2\n" {
		t.Errorf("%q", s)
	}
	v.Swept = 4
	if s := holding(v); s != "error 130\n" {
		t.Errorf("%q", s)
	}
}

// TestShownErrors: what can't be shown is told as show's error.
func TestShownErrors(t *testing.T) {
	h := newHand()
	if s := h.shown(nil, made(t, api.TagSymbol, 0)); s != "error 110\n" {
		t.Errorf("%q", s)
	}
	if s := h.shown(nil, words.Ref(0)); s != "error 110\n" {
		t.Errorf("%q", s)
	}
	h.table.Intern("x")
	if s := h.shown(nil, made(t, api.TagSymbol, 0)); s != "= x\n" {
		t.Errorf("%q", s)
	}
}

// TestCodeThatMayNotBe: no source comes to such code; what its text, a world and a baton of it answer would be told.
func TestCodeThatMayNotBe(t *testing.T) {
	h := newHand()
	h.code = &api.Code{}
	numbers := given{numbers: []int{4, 0, 1}}
	for _, s := range []string{h.codeText(given{}), h.makeWorld(numbers), h.handBaton(numbers)} {
		if s != "error 80\n" {
			t.Errorf("%q", s)
		}
	}
	if h.hasWorld() {
		t.Error("there is a world")
	}
}

// TestBatonThatCannotStart: its first procedure takes an argument; also this one is shut.
func TestBatonThatCannotStart(t *testing.T) {
	h := newHand()
	h.code = &api.Code{Consts: []api.Word{made(t, api.TagNil, 0)}, Procs: []api.Proc{{Params: 1, Code: []api.Instr{{Op: api.OpConst}, {Op: api.OpReturn}}}}}
	if s := h.handBaton(given{numbers: []int{4, 0, 1, 2, 3}}); s != "error 1\n" {
		t.Errorf("%q", s)
	}
}

// TestTable: each row has all that it needs; which ones are starred.
func TestTable(t *testing.T) {
	starred := 0
	for word, c := range commands() {
		if c.needs == nil || c.takes == nil || c.does == nil {
			t.Errorf("%s: something is missing", word)
		}
		if c.starred {
			starred++
		}
	}
	if l := commands(); len(l) != 22 || starred != 5 || !l["source"].starred || !l["world"].starred || !l["baton"].starred || !l["settle"].starred || !l["par"].starred {
		t.Error(len(l), starred)
	}
}

// TestCaught: a wrong line is recovered; a mistake of the program's own goes on.
func TestCaught(t *testing.T) {
	if f, ok := caught(nil); ok || f.line != 0 {
		t.Error(f, ok)
	}
	if f, ok := caught(fault{7}); !ok || f.line != 7 {
		t.Error(f, ok)
	}
	defer func() {
		if recover() != "other" {
			t.Error("it does not go on")
		}
	}()
	caught("other")
}
