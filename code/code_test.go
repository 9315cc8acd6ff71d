package code_test

import (
	"fmt"
	"slices"
	"strconv"
	"strings"
	"testing"

	"dapple/api"
	"dapple/code"
	"dapple/words"
)

// opWords are what instructions are called, by their Ops from 1 on, as the chapter has them.
func opWords() []string { return allOps }

var allOps = strings.Fields("const var setvar global setglobal closure pop jump branch call tail return prim spawn join lock unlock yield")

// numberless are those that have no number in the text.
func numberless() []string { return strings.Fields("pop return spawn join lock unlock yield") }

// primArguments are how many arguments primitives have, by their numbers from 1 on.
func primArguments() []int {
	return []int{2, 1, 1, 2, 2, 1, 1, 2, 3, 2, 2, 1, 1, 1, 2, 2, 2, 2, 2, 2, 1, 1}
}

// asm are the instructions of a text such as "const 0; pop; return".
func asm(text string) []api.Instr {
	var out []api.Instr
	for _, s := range strings.Split(text, ";") {
		word := strings.Fields(s)
		i := api.Instr{Op: api.Op(slices.Index(opWords(), word[0]) + 1)}
		if i.Op == 0 {
			panic("no instruction: " + s)
		}
		if len(word) > 1 {
			n, err := strconv.Atoi(word[1])
			if err != nil {
				panic(err)
			}
			i.A = n
		}
		out = append(out, i)
	}
	return out
}

// times is an instruction, so often.
func times(n int, op api.Op) []api.Instr { return slices.Repeat([]api.Instr{{Op: op}}, n) }

func proc(params int, text string) api.Proc { return api.Proc{Params: params, Code: asm(text)} }

// word is the one of a tag and a number.
func word(tag api.Tag, n int64) api.Word {
	w, e := words.Make(tag, n)
	if e != api.OK {
		panic(e)
	}
	return w
}

// sample is the chapter's code.
func sample() api.Code {
	return api.Code{
		Consts:  []api.Word{word(api.TagInt, 5), word(api.TagNil, 0)},
		Globals: []string{"x"},
		Procs:   []api.Proc{proc(0, "const 0; setglobal 0; return"), proc(1, "var 0; return")},
	}
}

const sampleText = "const int 5\nconst nil\nglobal x\nproc 0\n const 0\n setglobal 0\n return\nproc 1\n var 0\n return\n"

// copied is code in memory of its own.
func copied(c api.Code) api.Code {
	out := api.Code{Consts: slices.Clone(c.Consts), Globals: slices.Clone(c.Globals), Procs: slices.Clone(c.Procs)}
	for i := range out.Procs {
		out.Procs[i].Code = slices.Clone(out.Procs[i].Code)
	}
	return out
}

// same tells whether all fields are the same, by their own text.
func same(a, b api.Code) bool { return dump(a) == dump(b) }

// dump is a text of all fields of any code.
func dump(c api.Code) string {
	var b strings.Builder
	for _, w := range c.Consts {
		fmt.Fprintf(&b, "%x ", uint64(w))
	}
	fmt.Fprintf(&b, "%q", c.Globals)
	for _, p := range c.Procs {
		fmt.Fprintf(&b, " (%d:", p.Params)
		for _, i := range p.Code {
			fmt.Fprintf(&b, " %d,%d", i.Op, i.A)
		}
		b.WriteString(")")
	}
	return b.String()
}

// short is a text that can be told.
func short(s string) string {
	if len(s) > 300 {
		return s[:300] + ".."
	}
	return s
}

// verdict is what Check answers.
type verdict struct {
	e     api.Errno
	proc  int
	place int
}

func much(proc, place int) verdict { return verdict{api.ErrMuch, proc, place} }

func noCode(proc, place int) verdict { return verdict{api.ErrCodeForm, proc, place} }

var mayBe verdict

// checks holds Check and Text of code against what they must answer; what is written must be read again.
func checks(t testing.TB, c api.Code, want verdict) {
	t.Helper()
	e, number, place := code.Check(c)
	if (verdict{e, number, place}) != want {
		t.Errorf("Check of %s: %d, %d, %d; not %v", short(dump(c)), e, number, place, want)
	}
	s, e := code.Text(c)
	if e != want.e || (s == "") != (e != api.OK) {
		t.Errorf("Text of %s: %q, %d", short(dump(c)), short(s), e)
	}
	if e != api.OK {
		return
	}
	if d, e, line := code.Parse(s); e != api.OK || line != 0 || !same(c, d) {
		t.Errorf("Parse of %q: %s, %d, %d", short(s), short(dump(d)), e, line)
	}
}

// reads holds Parse of a text against an error and a line; without an error the code must be written as that text.
func reads(t testing.TB, s string, want api.Errno, line int) {
	t.Helper()
	c, e, at := code.Parse(s)
	if e != want || at != line {
		t.Errorf("Parse of %q: %d, line %d; not %d, line %d", short(s), e, at, want, line)
	}
	if e != api.OK {
		if !same(c, api.Code{}) {
			t.Errorf("Parse of %q gives %s beside the error %d", short(s), short(dump(c)), e)
		}
		return
	}
	if again, e := code.Text(c); again != s || e != api.OK {
		t.Errorf("Text of what Parse reads of %q: %q, %d", short(s), short(again), e)
	}
}

func TestNumbersOfErrors(t *testing.T) {
	if api.ErrMuch != 2 || api.ErrCodeForm != 80 || api.ErrCodeText != 81 {
		t.Error(api.ErrMuch, api.ErrCodeForm, api.ErrCodeText)
	}
}

func TestSampleIsWritten(t *testing.T) {
	checks(t, sample(), mayBe)
	if s, e := code.Text(sample()); s != sampleText || e != api.OK {
		t.Errorf("%q, %d", s, e)
	}
	c, e, line := code.Parse(sampleText)
	if !same(c, sample()) || !code.Same(c, sample()) || e != api.OK || line != 0 {
		t.Errorf("%s, %d, %d", dump(c), e, line)
	}
}

// TestExamplesOfCheck are the chapter's.
func TestExamplesOfCheck(t *testing.T) {
	first := func(text string) api.Code {
		c := sample()
		c.Procs[0].Code = asm(text)
		return c
	}
	checks(t, first("const 0; pop; return"), noCode(0, 2))
	checks(t, first("const 0; jump 0"), noCode(0, 0))
	checks(t, first("const 0; return; const 0; return"), noCode(0, 2))
	checks(t, first("const 2; setglobal 0; return"), noCode(0, 0))
	short := sample()
	short.Procs[1].Code = short.Procs[1].Code[:1]
	checks(t, short, noCode(1, 0))
	none := sample()
	none.Procs = nil
	checks(t, none, noCode(0, 0))
	many := sample()
	many.Procs = slices.Repeat(many.Procs, 129)[:257]
	checks(t, many, much(0, 0))
}

// TestExamplesOfParse are the chapter's.
func TestExamplesOfParse(t *testing.T) {
	reads(t, sampleText[:len(sampleText)-1], api.ErrCodeText, 10)
	reads(t, strings.Replace(sampleText, "int 5", "int 05", 1), api.ErrCodeText, 1)
	reads(t, strings.Replace(sampleText, "global x\n", "global x\nglobal x\n", 1), api.ErrCodeForm, 0)
	reads(t, strings.Replace(sampleText, "var 0", "var 7", 1), api.OK, 0)
	reads(t, "", api.ErrCodeForm, 0)
}
