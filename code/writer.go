package code

import (
	"strconv"
	"strings"

	"dapple/api"
	"dapple/words"
)

// What the lines begin with.
const (
	constAhead  = "const "
	globalAhead = "global "
	procAhead   = "proc "
	instrAhead  = " "
)

// written is the text of code that may be.
func written(c api.Code) string {
	var b strings.Builder
	for _, w := range c.Consts {
		writeLine(&b, constAhead, constText(w))
	}
	for _, name := range c.Globals {
		writeLine(&b, globalAhead, name)
	}
	for _, p := range c.Procs {
		writeLine(&b, procAhead, strconv.Itoa(p.Params))
		for _, i := range p.Code {
			writeLine(&b, instrAhead, instrText(i))
		}
	}
	return b.String()
}

func writeLine(b *strings.Builder, ahead, text string) {
	b.WriteString(ahead)
	b.WriteString(text)
	b.WriteByte('\n')
}

func constText(w api.Word) string {
	tag, n, _ := words.Of(w)
	if !tagHasNumber(tag) {
		return tagNames[tag]
	}
	return tagNames[tag] + " " + strconv.FormatInt(n, 10)
}

func instrText(i api.Instr) string {
	if !hasNumber(i.Op) {
		return opNames[i.Op]
	}
	return opNames[i.Op] + " " + strconv.Itoa(i.A)
}
