package code_test

import (
	"fmt"
	"slices"
	"strings"
	"testing"

	"dapple/api"
	"dapple/code"
	"dapple/words"
)

// one is code with one procedure, some constants and globals, and two procedures that may be ahead of it: its number is 2.
func one(instrs []api.Instr) api.Code {
	return api.Code{
		Consts:  []api.Word{word(api.TagInt, 5), word(api.TagNil, 0), word(api.TagTrue, 0)},
		Globals: []string{"x", "y"},
		Procs:   []api.Proc{proc(0, "yield; return"), proc(3, "jump 0"), {Code: instrs}},
	}
}

// names are so many unlike ones.
func names(n int) []string {
	var out []string
	for i := range n {
		out = append(out, fmt.Sprintf("g%d", i))
	}
	return out
}

// long is a procedure of so many instructions that may be.
func long(n int) []api.Instr {
	out := make([]api.Instr, 0, n)
	for range (n - 1) / 2 {
		out = append(out, asm("yield; pop")...)
	}
	if n%2 == 0 {
		return append(out, asm("yield; return")...)
	}
	return append(out, asm("jump 0")...)
}

// TestLimits: of each the greatest that may be, and one more.
func TestLimits(t *testing.T) {
	small := proc(0, "yield; return")
	for n, want := range map[int]verdict{1: mayBe, 255: mayBe, 256: mayBe, 257: much(0, 0), 1000: much(0, 0)} {
		checks(t, api.Code{Procs: slices.Repeat([]api.Proc{small}, n)}, want)
	}
	for n, want := range map[int]verdict{0: mayBe, 1: mayBe, 1023: mayBe, 1024: mayBe, 1025: much(0, 0), 5000: much(0, 0)} {
		checks(t, api.Code{Consts: slices.Repeat([]api.Word{85}, n), Procs: []api.Proc{small}}, want)
	}
	for n, want := range map[int]verdict{0: mayBe, 1: mayBe, 63: mayBe, 64: mayBe, 65: much(0, 0), 500: much(0, 0)} {
		checks(t, api.Code{Globals: names(n), Procs: []api.Proc{small}}, want)
	}
	for n, want := range map[int]verdict{1: mayBe, 4095: mayBe, 4096: mayBe, 4097: much(2, 0), 9000: much(2, 0)} {
		checks(t, one(long(n)), want)
	}
	for n, want := range map[int]verdict{0: mayBe, 1: mayBe, 255: mayBe, 256: mayBe, 257: noCode(2, 0), -1: noCode(2, 0), 1 << 40: noCode(2, 0), -1 << 63: noCode(2, 0)} {
		c := one(asm("yield; return"))
		c.Procs[2].Params = n
		checks(t, c, want)
	}
	checks(t, one(nil), noCode(2, 0))
	checks(t, api.Code{}, noCode(0, 0))
	checks(t, api.Code{Consts: []api.Word{85}, Globals: []string{"x"}}, noCode(0, 0))
}

// TestAllAtTheirLimits: what is as great as may be in all at one time, is written and read.
func TestAllAtTheirLimits(t *testing.T) {
	c := api.Code{Consts: slices.Repeat([]api.Word{word(api.TagInt, -1<<59)}, 1024), Globals: names(64)}
	for range 256 {
		instrs := slices.Repeat(asm("const 1023; setglobal 63; setvar 256; pop; closure 255; prim 22; call 0; pop"), 511)
		c.Procs = append(c.Procs, api.Proc{Params: 256, Code: append(instrs, asm("yield; pop; yield; pop; yield; branch 0; yield; return")...)})
	}
	checks(t, c, mayBe)
}

// TestConstants: each tag at its edges, a reference, and what is no word.
func TestConstants(t *testing.T) {
	with := func(w api.Word) api.Code {
		c := one(asm("const 3; return"))
		c.Consts = append(c.Consts, w)
		return c
	}
	for _, w := range goodConsts() {
		checks(t, with(w), mayBe)
	}
	for _, w := range badConsts() {
		checks(t, with(w), noCode(0, 0))
		c := with(w)
		c.Consts = append([]api.Word{w}, c.Consts...)
		checks(t, c, noCode(0, 0))
	}
}

func goodConsts() []api.Word {
	out := []api.Word{word(api.TagNil, 0), word(api.TagFalse, 0), word(api.TagTrue, 0), word(api.TagNone, 0)}
	for _, n := range []int64{-1 << 59, -1<<59 + 1, -10, -1, 0, 1, 9, 10, 1<<59 - 2, 1<<59 - 1} {
		out = append(out, word(api.TagInt, n))
	}
	for _, n := range []int64{0, 1, 10, 2147483646, 2147483647} {
		out = append(out, word(api.TagSymbol, n))
	}
	for n := range int64(22) {
		out = append(out, word(api.TagPrim, n+1))
	}
	return out
}

func badConsts() []api.Word {
	bits := func(tag, n int64) api.Word { return api.Word(n*16 + tag) }
	out := []api.Word{words.Ref(0), words.Ref(1), words.Ref(2147483647), 0, bits(0, 1), bits(9, 0), bits(15, 0), bits(9, 5)}
	for tag := range int64(4) {
		out = append(out, bits(tag+1, 1), bits(tag+1, -1))
	}
	return append(out, bits(6, -1), bits(6, 2147483648), bits(7, 0), bits(7, 23), bits(7, -1), bits(8, -1), bits(8, 2147483648))
}

// TestGlobals: names that are symbols and stand there once.
func TestGlobals(t *testing.T) {
	with := func(names ...string) api.Code {
		c := one(asm("yield; return"))
		c.Globals = names
		return c
	}
	for _, name := range []string{"a", "-", "+", "...", "a.b", "+1", "set-car!", "if", "car", "proc", strings.Repeat("x", 32)} {
		checks(t, with(name), mayBe)
		checks(t, with("b", name), mayBe)
	}
	for _, name := range []string{"", "1", "-7", ".", "#t", "#f", "#", "a b", " a", "a ", "a'", "(", "a;", "a\n", "\n", "\x00", "\xff", "\"", "1+", "ä", strings.Repeat("x", 33)} {
		checks(t, with(name), noCode(0, 0))
		checks(t, with("b", name), noCode(0, 0))
		checks(t, with(name, "b"), noCode(0, 0))
	}
	checks(t, with("a", "b", "c"), mayBe)
	checks(t, with("a", "a"), noCode(0, 0))
	checks(t, with("a", "b", "a"), noCode(0, 0))
	checks(t, with("a", "b", "c", "b"), noCode(0, 0))
	checks(t, with("a", "A", "aa"), mayBe)
	many := names(64)
	many[63] = many[0]
	checks(t, with(many...), noCode(0, 0))
}

// reach is the least and the greatest A of an Op in the code of one, for a procedure of n instructions.
func reach(op string, n int) (int, int) {
	switch op {
	case "const":
		return 0, 2
	case "global", "setglobal":
		return 0, 1
	case "closure":
		return 0, 2
	case "jump", "branch":
		return 0, n - 1
	case "var", "setvar", "call", "tail":
		return 0, 256
	case "prim":
		return 1, 22
	}
	return 0, 0
}

// TestEachOpAndItsA: an instruction of which A may not be is told of ahead of depths, so that what is wrong by its depth at an earlier place tells those that may be.
func TestEachOpAndItsA(t *testing.T) {
	for number, op := range opWords() {
		least, most := reach(op, 4)
		for _, a := range []int{least - 1, least, least + 1, most - 1, most, most + 1, most + 2, -1, 0, 1, 255, 256, 257, 258, 1 << 31, 1 << 32, -1 << 63, 1<<63 - 1} {
			want := noCode(2, 2)
			if least <= a && a <= most {
				want = noCode(2, 0)
			}
			checks(t, one([]api.Instr{{Op: api.OpPop}, {Op: api.OpYield}, {Op: api.Op(number + 1), A: a}, {Op: api.OpReturn}}), want)
		}
	}
}

// TestNumbersOfNothing: where there is no constant and no global, no A names one; of procedures there is one at least.
func TestNumbersOfNothing(t *testing.T) {
	for _, text := range []string{"const 0; return", "global 0; return", "closure 1; return"} {
		checks(t, api.Code{Procs: []api.Proc{proc(0, text)}}, noCode(0, 0))
	}
	checks(t, api.Code{Procs: []api.Proc{proc(0, "yield; setglobal 0; return")}}, noCode(0, 1))
	checks(t, api.Code{Procs: []api.Proc{proc(0, "closure 0; return")}}, mayBe)
	checks(t, api.Code{Globals: names(64), Procs: []api.Proc{proc(0, "global 63; setglobal 63; return")}}, mayBe)
	checks(t, api.Code{Globals: names(64), Procs: []api.Proc{proc(0, "global 63; setglobal 64; return")}}, noCode(0, 1))
}

// TestNoOp: numbers that are no Op's.
func TestNoOp(t *testing.T) {
	for number := range 256 {
		want := noCode(2, 1)
		if 1 <= number && number <= 18 {
			want = noCode(2, 0)
		}
		a := 0
		if api.Op(number) == api.OpPrim {
			a = 1
		}
		checks(t, one([]api.Instr{{Op: api.OpPop}, {Op: api.Op(number), A: a}, {Op: api.OpReturn}}), want)
	}
}

// TestLastInstruction: behind it nothing can stand.
func TestLastInstruction(t *testing.T) {
	for number, op := range opWords() {
		least, _ := reach(op, 3)
		// The first place is wrong by its depth: of the last one that is told ahead.
		want := noCode(2, 2)
		if op == "return" || op == "tail" || op == "jump" {
			want = noCode(2, 0)
		}
		checks(t, one([]api.Instr{{Op: api.OpPop}, {Op: api.OpYield}, {Op: api.Op(number + 1), A: least}}), want)
	}
	checks(t, one(asm("return")), noCode(2, 0))
	checks(t, one(asm("yield")), noCode(2, 0))
	checks(t, one(asm("jump 0")), mayBe)
	checks(t, one(asm("yield; tail 0")), mayBe)
	checks(t, one(asm("yield; return")), mayBe)
}

// effect is what an instruction takes and puts, by the chapter's table.
func effect(op string, a int) (int, int) {
	switch op {
	case "const", "var", "global", "closure", "yield":
		return 0, 1
	case "setvar", "setglobal", "spawn", "join", "lock", "unlock":
		return 1, 1
	case "pop", "branch":
		return 1, 0
	case "jump":
		return 0, 0
	case "call":
		return a + 1, 1
	case "prim":
		return primArguments()[a-1], 1
	case "return":
		return 1, 0
	case "tail":
		return a + 1, 0
	}
	panic(op)
}

// somePlaces are numbers A of an Op that may be, at the place at of a procedure of n instructions; jumps go to the next place.
func somePlaces(op string, at int) []int {
	switch op {
	case "jump", "branch":
		return []int{at + 1}
	case "call", "tail":
		return []int{0, 1, 2, 3, 10, 200, 253}
	case "prim":
		var all []int
		for n := range 22 {
			all = append(all, n+1)
		}
		return all
	case "var", "setvar":
		return []int{0, 1, 256}
	case "const":
		return []int{0, 2}
	case "global", "setglobal":
		return []int{0, 1}
	case "closure":
		return []int{0, 1, 2}
	}
	return []int{0}
}

// TestWhatEachTakesAndPuts: with as much as it takes a place is right, with one less it is wrong; and an OpTail behind it, that takes all there is, tells what it puts.
func TestWhatEachTakesAndPuts(t *testing.T) {
	for number, op := range opWords() {
		for _, some := range somePlaces(op, 0) {
			takes, puts := effect(op, some)
			for extra := -1; extra <= 1; extra++ {
				ahead := takes + extra
				if ahead < 0 || ahead > 254 {
					continue
				}
				i := api.Instr{Op: api.Op(number + 1), A: some}
				if op == "jump" || op == "branch" {
					i.A = ahead + 1
				}
				instrs := append(times(ahead, api.OpYield), i)
				if op == "return" || op == "tail" {
					endsThere(t, instrs, extra < 0)
					continue
				}
				tellsDepth(t, instrs, ahead-takes+puts, extra < 0)
			}
		}
	}
}

// endsThere holds that no way goes on behind the last one of these instructions, which is wrong or not.
func endsThere(t *testing.T, instrs []api.Instr, wrong bool) {
	t.Helper()
	at := len(instrs)
	alone, more := mayBe, noCode(2, at)
	if wrong {
		alone, more = noCode(2, at-1), noCode(2, at-1)
	}
	checks(t, one(instrs), alone)
	checks(t, one(append(slices.Clone(instrs), asm("yield; return")...)), more)
}

// tellsDepth holds the depth behind all of these instructions, of which the last one is wrong or not, against the one that there must be.
func tellsDepth(t *testing.T, instrs []api.Instr, depth int, wrong bool) {
	t.Helper()
	at := len(instrs)
	ending := func(n int) api.Code {
		// One word more, so that the OpTail takes one at least.
		return one(append(slices.Clone(instrs), api.Instr{Op: api.OpYield}, api.Instr{Op: api.OpTail, A: n}))
	}
	if wrong {
		checks(t, ending(0), noCode(2, at-1))
		return
	}
	checks(t, ending(depth), mayBe)
	checks(t, ending(depth+1), noCode(2, at+1))
}

// TestDepths are procedures with their ways.
func TestDepths(t *testing.T) {
	for text, want := range map[string]verdict{
		// Jumps: to itself, to the first place, to the last one, forward, backward.
		"jump 0":                                     mayBe,
		"yield; pop; jump 0":                         mayBe,
		"yield; jump 1":                              mayBe,
		"yield; jump 2; return":                      mayBe,
		"yield; jump 3; return; jump 2":              mayBe,
		"jump 2; return; yield; jump 1":              mayBe,
		"jump 2; return; jump 1":                     noCode(2, 1),
		"jump 1; jump 0":                             mayBe,
		"jump 1; yield; jump 1":                      noCode(2, 1),
		"yield; jump 0":                              noCode(2, 0),
		"yield; yield; pop; jump 1":                  mayBe,
		"yield; yield; jump 1":                       noCode(2, 1),
		"jump 3; yield; return; yield; jump 2":       noCode(2, 1),
		"jump 2; jump 3; yield; jump 1":              mayBe,
		"jump 1; jump 2; jump 3; jump 0":             mayBe,
		"jump 1; jump 2; jump 3; yield; return":      mayBe,
		"jump 4; yield; return; jump 1; jump 3":      mayBe,
		"jump 4; return; yield; jump 1; jump 2":      mayBe,
		"jump 4; return; pop; jump 1; jump 2":        noCode(2, 1),
		"yield; jump 3; yield; yield; tail 1":        noCode(2, 2),
		"yield; pop; pop; yield; return":             noCode(2, 2),
		"pop; yield; yield; return":                  noCode(2, 0),
		"pop; return":                                noCode(2, 0),
		"jump 3; yield; return; pop; yield; jump 1":  noCode(2, 3),
		"jump 3; return; return; pop; yield; jump 1": noCode(2, 1),

		// Branches: likewise; and with two ways to one place.
		"yield; branch 0; yield; return":                                 mayBe,
		"yield; branch 1; yield; return":                                 noCode(2, 1),
		"yield; yield; branch 1; return":                                 mayBe,
		"yield; yield; branch 0; return":                                 noCode(2, 0),
		"yield; branch 2; yield; return":                                 mayBe,
		"yield; branch 3; yield; return":                                 noCode(2, 3),
		"yield; yield; branch 3; return":                                 mayBe,
		"yield; yield; branch 4; jump 4; return":                         mayBe,
		"yield; yield; branch 5; pop; yield; return":                     mayBe,
		"yield; yield; branch 5; yield; pop; return":                     mayBe,
		"yield; yield; branch 5; pop; jump 6; pop; yield; return":        mayBe,
		"yield; yield; branch 5; pop; jump 6; yield; yield; return":      noCode(2, 6),
		"yield; branch 4; yield; jump 5; yield; return":                  mayBe,
		"yield; branch 5; yield; yield; jump 6; yield; return":           noCode(2, 6),
		"yield; branch 4; yield; return; yield; return":                  mayBe,
		"yield; branch 4; yield; return; yield; jump 3":                  mayBe,
		"yield; branch 4; yield; return; yield; yield; jump 3":           noCode(2, 3),
		"branch 1; yield; return":                                        noCode(2, 0),
		"yield; branch 2; return":                                        noCode(2, 2),
		"yield; branch 6; yield; pop; jump 0; return; yield; return":     noCode(2, 5),
		"yield; branch 5; yield; pop; jump 0; yield; return":             mayBe,
		"yield; branch 5; yield; yield; jump 0; yield; return":           noCode(2, 0),
		"yield; branch 4; yield; jump 0; yield; return":                  noCode(2, 0),
		"yield; yield; branch 1; branch 0; yield; return":                mayBe,
		"yield; yield; branch 4; branch 0; branch 0; yield; return":      noCode(2, 0),
		"yield; yield; yield; branch 6; pop; return; return":             mayBe,
		"yield; yield; yield; branch 6; pop; pop; return":                noCode(2, 6),
		"yield; yield; yield; branch 6; prim 1; jump 6; return":          noCode(2, 6),
		"yield; yield; yield; branch 6; setvar 0; jump 6; return":        mayBe,
		"yield; yield; yield; branch 6; prim 1; tail 0; prim 10; jump 5": mayBe,
		"yield; yield; yield; branch 6; prim 1; tail 0; prim 12; jump 5": noCode(2, 5),
		"yield; yield; yield; branch 4; prim 1; return":                  mayBe,
		"yield; branch 3; jump 2; jump 3":                                mayBe,
		"jump 1; yield; branch 4; jump 3; jump 1":                        mayBe,
		"jump 1; yield; branch 4; jump 3; jump 0":                        mayBe,
		"yield; branch 2; jump 4; return; yield; jump 3":                 mayBe,
		"closure 0; const 0; const 1; const 2; call 3; return":           mayBe,
		"closure 0; const 0; const 1; const 2; call 4; return":           noCode(2, 4),
		"closure 0; const 0; const 1; const 2; tail 3":                   mayBe,
		"closure 0; const 0; const 1; const 2; tail 4":                   noCode(2, 4),
		"closure 0; const 0; const 1; const 2; tail 0":                   mayBe,
		"const 0; const 1; prim 9; return":                               noCode(2, 2),
		"const 0; const 1; const 2; prim 9; return":                      mayBe,
		"const 0; const 1; const 2; prim 9; pop; return":                 noCode(2, 5),
		"yield; return; return":                                          noCode(2, 2),
		"yield; tail 0; return":                                          noCode(2, 2),
		"yield; tail 0; jump 2":                                          noCode(2, 2),
		"yield; jump 3; yield; return":                                   noCode(2, 2),
		"yield; branch 5; yield; return; pop; yield; return":             noCode(2, 4),
		"yield; branch 5; yield; return; jump 5; yield; return":          noCode(2, 4),
		"spawn; return": noCode(2, 0),
		"yield; spawn; join; lock; unlock; setvar 0; setglobal 1; return":           mayBe,
		"yield; spawn; pop; join; yield; lock; return":                              noCode(2, 3),
		"var 0; setvar 256; global 1; closure 2; prim 1; tail 1":                    mayBe,
		"yield; branch 6; yield; yield; yield; return; yield; return":               mayBe,
		"yield; branch 6; yield; yield; prim 9; return; yield; return":              noCode(2, 4),
		"yield; branch 3; jump 5; yield; return; yield; pop; return":                noCode(2, 7),
		"jump 4; yield; jump 3; return; yield; branch 1; yield; yield; pop; jump 3": mayBe,
	} {
		checks(t, one(asm(text)), want)
	}
}

// TestDepthsGoOn: behind a place that is wrong they are counted on, with what it takes, so that an earlier place may be wrong by that, or not.
func TestDepthsGoOn(t *testing.T) {
	for text, want := range map[string]verdict{
		// Place 3 has too little, by 2: one behind has still too little, and stands ahead of it.
		"jump 3; return; yield; prim 1; yield; jump 1": noCode(2, 1),
		"jump 3; yield; return; prim 1; yield; jump 1": noCode(2, 3),
		"jump 3; yield; return; call 1; jump 1":        noCode(2, 1),
		"jump 3; yield; return; call 0; jump 1":        noCode(2, 3),
		"jump 3; yield; return; call 3; jump 1":        noCode(2, 1),
		// Below 0 it is counted on: two ways with one depth, and with two.
		"jump 4; return; yield; jump 1; yield; branch 6; pop; yield; yield; jump 2":                  noCode(2, 6),
		"jump 5; yield; yield; yield; return; yield; branch 8; jump 1; call 1; jump 2":               noCode(2, 2),
		"jump 5; yield; yield; yield; return; yield; branch 9; yield; jump 2; call 0; yield; jump 2": noCode(2, 1),
		"jump 4; yield; tail 0; return; yield; branch 7; jump 1; pop; yield; jump 1":                 noCode(2, 3),
		"jump 4; yield; yield; tail 0; yield; branch 7; jump 1; pop; yield; jump 1":                  noCode(2, 7),
		// Two depths go on together, past where one of them was first.
		"jump 3; yield; return; yield; branch 3; yield; pop; jump 1":        mayBe,
		"jump 3; yield; return; yield; yield; branch 3; pop; jump 1":        noCode(2, 1),
		"jump 3; yield; return; yield; yield; yield; branch 3; pop; jump 1": noCode(2, 1),
		"jump 2; return; yield; jump 4; yield; yield; branch 4; jump 1":     noCode(2, 1),
		"jump 2; return; yield; jump 4; yield; branch 4; jump 1":            mayBe,
	} {
		checks(t, one(asm(text)), want)
	}
	// A place with more than 255 is wrong, and with what comes back under that it goes on.
	deep := append(asm("jump 3; yield; return"), times(256, api.OpYield)...)
	checks(t, one(append(slices.Clone(deep), asm("pop; jump 1")...)), noCode(2, 2))
	checks(t, one(append(slices.Clone(deep), asm("pop; pop; jump 1")...)), noCode(2, 259))
	checks(t, one(append(slices.Clone(deep), asm("jump 1")...)), noCode(2, 1))
}

// TestGreatestDepth: 255 may be ahead of an instruction, 256 not, whatever it takes.
func TestGreatestDepth(t *testing.T) {
	for _, end := range []string{"return", "tail 0", "tail 254", "pop; return", "setvar 0; return", "prim 9; return", "call 254; return", "call 0; return"} {
		checks(t, one(append(times(255, api.OpYield), asm(end)...)), mayBe)
		checks(t, one(append(times(256, api.OpYield), asm(end)...)), noCode(2, 256))
		checks(t, one(append(times(257, api.OpYield), asm(end)...)), noCode(2, 256))
	}
	checks(t, one(append(times(255, api.OpYield), asm("tail 255")...)), noCode(2, 255))
	checks(t, one(append(times(256, api.OpYield), asm("tail 256")...)), noCode(2, 256))
	checks(t, one(append(times(255, api.OpYield), asm("jump 255")...)), mayBe)
	checks(t, one(append(times(256, api.OpYield), asm("jump 256")...)), noCode(2, 256))
	checks(t, one(append(times(255, api.OpYield), asm("yield; pop; return")...)), noCode(2, 256))
}

// fault is one that is laid into code of three procedures, and what Check tells of it.
type fault struct {
	name string
	lay  func(c *api.Code)
	want verdict
}

// faults are all of Check's, in its order.
func faults() []fault {
	all := []fault{
		{"procedures", func(c *api.Code) { c.Procs = append(c.Procs, slices.Repeat(c.Procs[:1], 254)...) }, much(0, 0)},
		{"constants", func(c *api.Code) { c.Consts = append(c.Consts, slices.Repeat([]api.Word{85}, 1024)...) }, much(0, 0)},
		{"globals", func(c *api.Code) { c.Globals = append(c.Globals, names(64)...) }, much(0, 0)},
		{"no word", func(c *api.Code) { c.Consts = append([]api.Word{0}, c.Consts...) }, noCode(0, 0)},
		{"a reference", func(c *api.Code) { c.Consts = append(c.Consts, words.Ref(1)) }, noCode(0, 0)},
		{"no symbol", func(c *api.Code) { c.Globals = append([]string{"7"}, c.Globals...) }, noCode(0, 0)},
		{"twice", func(c *api.Code) { c.Globals = append(c.Globals, "x") }, noCode(0, 0)},
	}
	for number := range 3 {
		all = append(all,
			fault{"instructions", func(c *api.Code) {
				p := &c.Procs[number]
				p.Code = append(p.Code, times(4096, api.OpYield)...)
			}, much(number, 0)},
			fault{"params", func(c *api.Code) { c.Procs[number].Params = 257 }, noCode(number, 0)},
			fault{"an A", func(c *api.Code) { c.Procs[number].Code[2].A = 5 }, noCode(number, 2)},
			fault{"an Op", func(c *api.Code) { c.Procs[number].Code[4].Op = 19 }, noCode(number, 4)},
			fault{"the last one", func(c *api.Code) { c.Procs[number].Code[7].Op = api.OpYield }, noCode(number, 7)},
			fault{"a depth", func(c *api.Code) { c.Procs[number].Code[0].Op = api.OpPop }, noCode(number, 0)},
			fault{"a later depth", func(c *api.Code) { c.Procs[number].Code[5].Op = api.OpPop }, noCode(number, 6)},
		)
	}
	return all
}

// TestFirstOfTwoFaults: of any two in one code, and of each alone, the first is told.
func TestFirstOfTwoFaults(t *testing.T) {
	base := func() api.Code {
		return api.Code{
			Consts:  []api.Word{85},
			Globals: []string{"x"},
			Procs: slices.Collect(func(yield func(api.Proc) bool) {
				for range 3 {
					yield(proc(1, "yield; pop; yield; pop; yield; yield; pop; return"))
				}
			}),
		}
	}
	checks(t, base(), mayBe)
	for i, first := range faults() {
		c := base()
		first.lay(&c)
		checks(t, c, first.want)
		for _, second := range faults()[i+1:] {
			c := base()
			second.lay(&c)
			first.lay(&c)
			if e, number, place := code.Check(c); (verdict{e, number, place}) != first.want {
				t.Errorf("%s, then %s: %d, %d, %d", first.name, second.name, e, number, place)
			}
		}
	}
	none := base()
	none.Procs = nil
	checks(t, none, noCode(0, 0))
	none.Consts = slices.Repeat([]api.Word{85}, 1025)
	checks(t, none, much(0, 0))
}

// TestManyWays: branches of which each doubles the ways are gone through all the same.
func TestManyWays(t *testing.T) {
	var instrs []api.Instr
	for len(instrs) < 4090 {
		at := len(instrs)
		instrs = append(instrs, asm(fmt.Sprintf("yield; branch %d; jump %d; jump 0", at+3, at+4))...)
	}
	checks(t, one(append(slices.Clone(instrs), asm("yield; return")...)), mayBe)
	checks(t, one(append(slices.Clone(instrs), asm("yield; jump 1")...)), mayBe)
	checks(t, one(append(slices.Clone(instrs), asm("yield; jump 0")...)), noCode(2, 0))
	checks(t, one(append(slices.Clone(instrs), asm("yield; jump 4088")...)), noCode(2, 0))
}
