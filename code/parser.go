package code

import (
	"math"
	"strconv"
	"strings"

	"dapple/api"
	"dapple/words"
)

// parsed is the code that a text's lines say, or the number of the first line that is wrong. Whether the code may be, is asked later.
func parsed(s string) (api.Code, int) {
	var p parser
	next := lineCutter(s)
	number := 1
	for line := next(); line != ""; line = next() {
		text, whole := strings.CutSuffix(line, "\n")
		if !whole || !p.take(text) {
			return api.Code{}, number
		}
		number++
	}
	return p.c, 0
}

// lineCutter is what cuts the next line off a text, with its 0a, each time that it is called; nothing at the text's end.
func lineCutter(s string) func() string {
	return func() string {
		end := strings.IndexByte(s, '\n') + 1
		if end == 0 {
			end = len(s)
		}
		line := s[:end]
		s = s[end:]
		return line
	}
}

// parser lays down what the lines say, one behind the other.
type parser struct {
	c api.Code
}

// take tells whether a line is one, and can stand behind those ahead of it.
func (p *parser) take(line string) bool {
	if text, ok := strings.CutPrefix(line, constAhead); ok {
		return p.takeConst(text)
	}
	if name, ok := strings.CutPrefix(line, globalAhead); ok {
		return p.takeGlobal(name)
	}
	if text, ok := strings.CutPrefix(line, procAhead); ok {
		return p.takeProc(text)
	}
	if text, ok := strings.CutPrefix(line, instrAhead); ok {
		return p.takeInstr(text)
	}
	return false
}

func (p *parser) takeConst(text string) bool {
	w, ok := constOf(text)
	if !ok || len(p.c.Globals) > 0 || len(p.c.Procs) > 0 {
		return false
	}
	p.c.Consts = append(p.c.Consts, w)
	return true
}

func (p *parser) takeGlobal(name string) bool {
	if len(p.c.Procs) > 0 {
		return false
	}
	// A piece of the text would keep all of it.
	p.c.Globals = append(p.c.Globals, strings.Clone(name))
	return true
}

func (p *parser) takeProc(text string) bool {
	params, ok := count(text)
	if !ok {
		return false
	}
	p.c.Procs = append(p.c.Procs, api.Proc{Params: params})
	return true
}

func (p *parser) takeInstr(text string) bool {
	i, ok := instrOf(text)
	if !ok || len(p.c.Procs) == 0 {
		return false
	}
	proc := &p.c.Procs[len(p.c.Procs)-1]
	proc.Code = append(proc.Code, i)
	return true
}

// constOf is the constant of which constText is the text.
func constOf(text string) (api.Word, bool) {
	name, digits, has := strings.Cut(text, " ")
	for tag := api.TagNil; tag <= api.TagPrim; tag++ {
		if tagNames[tag] == name && tagHasNumber(tag) == has {
			return wordOf(tag, digits, has)
		}
	}
	return 0, false
}

// wordOf is the word of a tag, and of a number, if it has one.
func wordOf(tag api.Tag, digits string, has bool) (api.Word, bool) {
	n, ok := int64(0), true
	if has {
		n, ok = number(digits)
	}
	w, e := words.Make(tag, n)
	return w, ok && e == api.OK
}

// instrOf is the instruction of which instrText is the text.
func instrOf(text string) (api.Instr, bool) {
	name, digits, has := strings.Cut(text, " ")
	for op := api.OpConst; op <= api.OpYield; op++ {
		if opNames[op] != name || hasNumber(op) != has {
			continue
		}
		if !has {
			return api.Instr{Op: op}, true
		}
		a, ok := count(digits)
		return api.Instr{Op: op, A: a}, ok
	}
	return api.Instr{}, false
}

// count is a number that may stand as Params or as A.
func count(digits string) (int, bool) {
	n, ok := number(digits)
	return int(n), ok && 0 <= n && n <= math.MaxInt32
}

// number is what digits say, if they stand as they are written: with no sign or nought too many.
func number(digits string) (int64, bool) {
	n, err := strconv.ParseInt(digits, 10, 64)
	return n, err == nil && strconv.FormatInt(n, 10) == digits
}
