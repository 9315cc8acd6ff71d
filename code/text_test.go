package code_test

import (
	"fmt"
	"strings"
	"testing"

	"dapple/api"
	"dapple/code"
)

// small is a text that may be, with these lines ahead of its procedure.
func small(lines ...string) string {
	return strings.Join(append(lines, "proc 0", " yield", " return", ""), "\n")
}

// within is a text that may not be, for its first procedure is empty, with a line in the midst of the second one, the line being number 4.
func within(line string) string {
	return "proc 0\nproc 0\n jump 0\n" + line + "\n"
}

// TestEachLine: every line of the chapter's table is written, and read as what it says.
func TestEachLine(t *testing.T) {
	for line, w := range map[string]api.Word{
		"const nil": word(api.TagNil, 0), "const false": word(api.TagFalse, 0), "const true": word(api.TagTrue, 0), "const none": word(api.TagNone, 0),
		"const int 0": word(api.TagInt, 0), "const int -1": word(api.TagInt, -1), "const int 10": word(api.TagInt, 10),
		"const symbol 0": word(api.TagSymbol, 0), "const symbol 20": word(api.TagSymbol, 20), "const prim 1": word(api.TagPrim, 1), "const prim 22": word(api.TagPrim, 22),
	} {
		means(t, small(line), api.Code{Consts: []api.Word{w}, Procs: []api.Proc{proc(0, "yield; return")}})
	}
	means(t, small("global a"), api.Code{Globals: []string{"a"}, Procs: []api.Proc{proc(0, "yield; return")}})
	for params := range 257 {
		means(t, fmt.Sprintf("proc %d\n jump 0\n", params), api.Code{Procs: []api.Proc{proc(params, "jump 0")}})
	}
	ahead := "const nil\nconst nil\nglobal a\nglobal b\nproc 0\n yield\n yield\n yield\n"
	for number, op := range opWords() {
		for _, a := range []int{0, 1} {
			line := fmt.Sprintf(" %s %d\n", op, a)
			if !hasNumber(op) {
				line = fmt.Sprintf(" %s\n", op)
			}
			if !hasNumber(op) && a == 1 || op == "prim" && a == 0 || op == "closure" && a == 1 {
				continue
			}
			i := api.Instr{Op: api.Op(number + 1), A: a}
			rest, instrs := " return\n", []api.Instr{{Op: api.OpReturn}}
			if op == "return" || op == "tail" {
				rest, instrs = "", nil
			}
			if op == "jump" || op == "branch" {
				// Whatever the depths are: that the line is read, an error of the code's own tells.
				_, e, at := code.Parse(ahead + line + rest)
				if e != api.ErrCodeForm || at != 0 {
					t.Errorf("%q: %d, %d", line, e, at)
				}
				continue
			}
			means(t, ahead+line+rest, api.Code{
				Consts: []api.Word{1, 1}, Globals: []string{"a", "b"},
				Procs: []api.Proc{{Code: append(append(asm("yield; yield; yield"), i), instrs...)}},
			})
		}
	}
	means(t, "proc 0\n yield\n branch 3\n jump 0\n jump 3\n", api.Code{Procs: []api.Proc{proc(0, "yield; branch 3; jump 0; jump 3")}})
}

// means holds a text against the code of which it is.
func means(t *testing.T, s string, want api.Code) {
	t.Helper()
	if c, e, line := code.Parse(s); e != api.OK || line != 0 || !same(c, want) {
		t.Errorf("Parse of %q: %s, %d, %d; not %s", s, dump(c), e, line, dump(want))
	}
	if text, e := code.Text(want); text != s || e != api.OK {
		t.Errorf("Text of %s: %q, %d; not %q", dump(want), text, e, s)
	}
}

// TestNumbers: each at its edges, and beyond; with noughts and signs.
func TestNumbers(t *testing.T) {
	type edge struct {
		n string
		e api.Errno
	}
	const wrong = api.ErrCodeText
	never := []edge{{"", wrong}, {"-", wrong}, {"-0", wrong}, {"00", wrong}, {"01", wrong}, {"-01", wrong}, {"+1", wrong}, {"+0", wrong}, {"--1", wrong}, {"1 ", wrong}, {" 1", wrong}, {"1.0", wrong}, {"1e1", wrong}, {"0x1", wrong}, {"1_0", wrong}, {"a", wrong}, {"1a", wrong}, {"a1", wrong}, {"1\r", wrong}, {"1 1", wrong}, {"٣", wrong}, {"9223372036854775807", wrong}, {"9223372036854775808", wrong}, {"-9223372036854775808", wrong}, {"-9223372036854775809", wrong}, {"18446744073709551616", wrong}, {"18446744073709551617", wrong}, {"4294967296", wrong}, {"99999999999999999999999999999999", wrong}, {"1" + strings.Repeat("0", 400), wrong}, {strings.Repeat("0", 400) + "1", wrong}}
	for ahead, edges := range map[string][]edge{
		"const int ":    {{"0", 0}, {"1", 0}, {"-1", 0}, {"9", 0}, {"10", 0}, {"-10", 0}, {"4294967297", 0}, {"2147483648", 0}, {"576460752303423487", 0}, {"576460752303423488", wrong}, {"-576460752303423488", 0}, {"-576460752303423489", wrong}, {"-576460752303423490", wrong}, {"1152921504606846977", wrong}},
		"const symbol ": {{"0", 0}, {"1", 0}, {"-1", wrong}, {"2147483647", 0}, {"2147483648", wrong}, {"4294967295", wrong}, {"1152921504606846977", wrong}},
		"const prim ":   {{"0", wrong}, {"1", 0}, {"-1", wrong}, {"21", 0}, {"22", 0}, {"23", wrong}, {"24", wrong}, {"256", wrong}, {"257", wrong}},
	} {
		for _, c := range append(edges, never...) {
			if c.n == "4294967296" && ahead == "const int " {
				c.e = api.OK
			}
			line := 1
			if c.e == api.OK {
				line = 0
			}
			reads(t, small(ahead+c.n), c.e, line)
			reads(t, small("const nil", ahead+c.n), c.e, 2*line)
		}
	}
	counts := append([]edge{{"0", 0}, {"1", 0}, {"10", 0}, {"-1", wrong}, {"256", 0}, {"257", 0}, {"4095", 0}, {"2147483646", 0}, {"2147483647", 0}, {"2147483648", wrong}, {"2147483649", wrong}, {"4294967297", wrong}}, never...)
	for _, c := range counts {
		for _, op := range opWords() {
			// Such code may not be, whatever the number is: that is told, if the line is read.
			e, line := api.ErrCodeForm, 0
			if c.e != api.OK || !hasNumber(op) {
				e, line = wrong, 4
			}
			reads(t, within(" "+op+" "+c.n), e, line)
		}
		e, line := api.ErrCodeForm, 0
		if c.e != api.OK {
			e, line = wrong, 3
		}
		reads(t, "proc 0\n jump 0\nproc "+c.n+"\n", e, line)
	}
}

func hasNumber(op string) bool {
	for _, s := range numberless() {
		if s == op {
			return false
		}
	}
	return true
}

// TestParams: what may be read need not be.
func TestParams(t *testing.T) {
	for params, want := range map[string]api.Errno{"0": api.OK, "256": api.OK, "257": api.ErrCodeForm, "2147483647": api.ErrCodeForm} {
		reads(t, "proc "+params+"\n jump 0\n", want, 0)
	}
	for a, want := range map[string]api.Errno{"0": api.OK, "256": api.OK, "257": api.ErrCodeForm, "2147483647": api.ErrCodeForm} {
		reads(t, "proc 0\n var "+a+"\n return\n", want, 0)
	}
}

// TestOrderOfLines: all rows of up to six lines; where one cannot stand is told by a row of letters.
func TestOrderOfLines(t *testing.T) {
	lines := map[byte]string{'c': "const nil\n", 'g': "global x\n", 'p': "proc 0\n", 'i': " jump 0\n"}
	var row func(kinds string)
	row = func(kinds string) {
		var text strings.Builder
		for i := range len(kinds) {
			text.WriteString(lines[kinds[i]])
		}
		if at := outOfOrder(kinds); at != 0 {
			reads(t, text.String(), api.ErrCodeText, at)
			// What comes behind it does not count.
			reads(t, text.String()+"x\n", api.ErrCodeText, at)
			return
		}
		want := api.OK
		if strings.Contains(kinds, "gg") || !strings.Contains(kinds, "p") || strings.Contains(kinds+"p", "pp") || strings.Contains(kinds, "ii") {
			want = api.ErrCodeForm
		}
		reads(t, text.String(), want, 0)
		reads(t, text.String()+"x\n", api.ErrCodeText, len(kinds)+1)
		if len(kinds) < 6 {
			for _, next := range "cgpi" {
				row(kinds + string(next))
			}
		}
	}
	row("")
}

// outOfOrder is the number of the first of a row's letters that cannot stand there; 0, if all can.
func outOfOrder(kinds string) int {
	for i := range len(kinds) {
		ahead := kinds[:i]
		switch kinds[i] {
		case 'c':
			if strings.ContainsAny(ahead, "gp") {
				return i + 1
			}
		case 'g':
			if strings.Contains(ahead, "p") {
				return i + 1
			}
		case 'i':
			if !strings.Contains(ahead, "p") {
				return i + 1
			}
		}
	}
	return 0
}

// TestNoLine: lines that are none, in each part of a text.
func TestNoLine(t *testing.T) {
	for _, s := range []string{
		"", " ", "  ", "  0", "  5", "   0", "\t", "x", "\x00", "\xff",
		"const", "const ", "const  nil", "const nil ", " const nil", "constnil", "Const nil", "CONST NIL", "const Nil", "const nill", "const ni", "const nul", "const nil 0", "const false 0", "const true 1", "const none 0", "const none ",
		"const int", "const int ", "const int5", "constint 5", "const  int 5", "const int  5", "const int 5 ", "const int 5 5", "const symbol", "const symbol ", "const symbol a", "const prim", "const prim ", "const prim car", "const ref 0", "const ref 1", "const reference 1", "const 0", "const 5", "const int nil", "const symbol -0", "const prim -1",
		"const nil\r", "const int 5\r", "const nil\x00", "const \x00",
		"global", "globals x", "Global x", "globalx", "glob x", "global\tx", "\tglobal x", "GLOBAL x",
		"proc", "proc ", "proc -1", "proc 0 ", "proc  0", "proc 0 0", "proc x", "Proc 0", "procs 0", "proc00", "proc0", "proc 00", "proc\t0", "pro 0", "proc 0\r",
		" proc 0", " symbol 1", " int 5", " nil", " nop", " const", " const ", " const nil", " const int 5", " const  0", "  const 0", " const 0 ", " const 0 0", " constant 0", " cons 0", " Const 0", " const\t0", "\tconst 0", " const0", " const -1", " const 00",
		" pop 0", " pop ", " pop  ", "pop", "  pop", " pops", " po", " Pop", " return 0", "return", " ret", " return ", " spawn 0", " join 0", " lock 0", " unlock 0", " yield 0", " yield ", "yield", " unlock ", " setglobal", " set-global 0", " setglobals 0", " global", " global ", " global x", " setvar", " var", " variable 0", " closure", " closure f", " jump", " branch", " call", " tail", " prim", " prim car", " goto 0",
		"; x", "# x",
	} {
		reads(t, s+"\n", api.ErrCodeText, 1)
		reads(t, "const nil\n"+s+"\n", api.ErrCodeText, 2)
		reads(t, "const nil\nglobal x\n"+s+"\n", api.ErrCodeText, 3)
		reads(t, within(s), api.ErrCodeText, 4)
		reads(t, within(s)+" jump 0\nx\n", api.ErrCodeText, 4)
		if s != "" {
			reads(t, s, api.ErrCodeText, 1)
		}
	}
}

// TestEachPieceOfAText: what is cut off within a line is that line's fault; the rest is read as what it says.
func TestEachPieceOfAText(t *testing.T) {
	for _, s := range []string{sampleText, small("const int -12", "const prim 3", "global abc", "global def")} {
		for k := range len(s) {
			piece := s[:k]
			if piece == "" || piece[k-1] == '\n' {
				samePlainText(t, piece)
				continue
			}
			reads(t, piece, api.ErrCodeText, strings.Count(piece, "\n")+1)
		}
	}
	reads(t, "proc 0\n jump 0", api.ErrCodeText, 2)
	reads(t, "proc 0", api.ErrCodeText, 1)
	reads(t, "x\nproc 0", api.ErrCodeText, 1)
	reads(t, "proc 0\n jump 0\n ", api.ErrCodeText, 3)
	reads(t, "\nproc 0", api.ErrCodeText, 1)
	reads(t, "global x\nglobal y", api.ErrCodeText, 2)
}

// TestEmptyLines: one is none, wherever it stands.
func TestEmptyLines(t *testing.T) {
	lines := strings.SplitAfter(sampleText, "\n")
	for i := range lines {
		reads(t, strings.Join(lines[:i], "")+"\n"+strings.Join(lines[i:], ""), api.ErrCodeText, i+1)
		reads(t, strings.Join(lines[:i], "")+"\n\n"+strings.Join(lines[i:], ""), api.ErrCodeText, i+1)
	}
	reads(t, "\n", api.ErrCodeText, 1)
	reads(t, "\n\n\n", api.ErrCodeText, 1)
	reads(t, strings.ReplaceAll(sampleText, "\n", "\r\n"), api.ErrCodeText, 1)
	reads(t, strings.ReplaceAll(sampleText, "\n", "\r"), api.ErrCodeText, 1)
	reads(t, "\ufeff"+sampleText, api.ErrCodeText, 1)
}

// TestAnyByteInAName: it is read; whether it is a symbol, Check asks, behind all lines.
func TestAnyByteInAName(t *testing.T) {
	for b := range 256 {
		for _, name := range []string{string([]byte{byte(b)}), string([]byte{'a', byte(b)}), string([]byte{byte(b), 'a'}), string([]byte{'a', byte(b), 'a'})} {
			want, line := api.ErrCodeForm, 0
			if b == '\n' {
				want, line = api.ErrCodeText, 2
			} else if plainSymbol(name) {
				want = api.OK
			}
			reads(t, small("global "+name), want, line)
			if b != '\n' {
				reads(t, small("global "+name)+"x\n", api.ErrCodeText, 5)
			}
		}
	}
	reads(t, small("global "), api.ErrCodeForm, 0)
	reads(t, small("global  "), api.ErrCodeForm, 0)
	reads(t, small("global  x"), api.ErrCodeForm, 0)
	reads(t, small("global x "), api.ErrCodeForm, 0)
	reads(t, small("global x\r"), api.ErrCodeForm, 0)
	reads(t, small("global "+strings.Repeat("x", 32)), api.OK, 0)
	reads(t, small("global "+strings.Repeat("x", 33)), api.ErrCodeForm, 0)
	reads(t, small("global "+strings.Repeat("x", 100000)), api.ErrCodeForm, 0)
	reads(t, small("global global"), api.OK, 0)
	reads(t, small("global const", "global proc"), api.OK, 0)
	reads(t, small("global 0"), api.ErrCodeForm, 0)
}

// TestTooMuchToRead: what is beyond a limit is read, and may not be; a line that is none is told ahead of that.
func TestTooMuchToRead(t *testing.T) {
	for s, want := range map[string]api.Errno{
		small(strings.Split(strings.Repeat("const nil,", 1023)+"const nil", ",")...): api.OK,
		small(strings.Split(strings.Repeat("const nil,", 1024)+"const nil", ",")...): api.ErrMuch,
		small("global " + strings.Join(names(64), "\nglobal ")):                      api.OK,
		small("global " + strings.Join(names(65), "\nglobal ")):                      api.ErrMuch,
		strings.Repeat("proc 0\n jump 0\n", 256):                                     api.OK,
		strings.Repeat("proc 0\n jump 0\n", 257):                                     api.ErrMuch,
		"proc 0\n" + strings.Repeat(" yield\n pop\n", 2047) + " yield\n return\n":    api.OK,
		"proc 0\n" + strings.Repeat(" yield\n pop\n", 2048) + " yield\n return\n":    api.ErrMuch,
	} {
		reads(t, s, want, 0)
		reads(t, s+"x\n", api.ErrCodeText, strings.Count(s, "\n")+1)
		reads(t, s+"x", api.ErrCodeText, strings.Count(s, "\n")+1)
	}
}
