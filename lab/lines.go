package lab

import (
	"math"
	"strings"
)

// deed is a line that says something: its command, and what is given to it.
type deed struct {
	command
	given
}

// given is what stands behind a command's word.
type given struct {
	numbers []int
	text    string
}

// reader goes through a script, line by line.
type reader struct {
	commands map[string]command
	lines    []string
	read     int // so many lines have been read
	at       int // the number of the command's line
}

// fault is what a script is given up with, from however deep inside: the number of a line that may not be.
type fault struct {
	line int
}

// caught is the fault that was recovered, if there was one. Any other panic is a mistake of the program's own, and goes on.
func caught(recovered any) (fault, bool) {
	f, ok := recovered.(fault)
	if !ok && recovered != nil {
		panic(recovered)
	}
	return f, ok
}

// deedsOf are a script's lines that say something.
func deedsOf(script string) []deed {
	r := &reader{commands: commands(), lines: strings.Split(script, "\n")}
	var out []deed
	for r.read < len(r.lines) {
		if line := r.next(); saysSomething(line) {
			r.at = r.read
			out = append(out, r.deed(line))
		}
	}
	return out
}

// next is the next line.
func (r *reader) next() string {
	r.read++
	return r.lines[r.read-1]
}

// deed is what a line says.
func (r *reader) deed(line string) deed {
	word, rest := firstWord(line)
	c, ok := r.commands[word]
	if !ok {
		panic(fault{r.at})
	}
	return deed{c, c.takes(r, rest)}
}

// takesText takes all that stands there.
func (r *reader) takesText(rest string) given { return given{text: rest} }

// takesSource takes the lines behind, up to a '.', and nothing that stands there.
func (r *reader) takesSource(rest string) given {
	r.takesNothing(rest)
	var source strings.Builder
	for r.read < len(r.lines) {
		line := r.next()
		if line == "." {
			return given{text: source.String()}
		}
		source.WriteString(line + "\n")
	}
	panic(fault{r.at})
}

func (r *reader) takesNothing(rest string) given { return r.numbers(rest, 0, 0) }

func (r *reader) takesOne(rest string) given { return r.numbers(rest, 1, 1) }

func (r *reader) takesTwo(rest string) given { return r.numbers(rest, 2, 2) }

func (r *reader) takesTwoAndMore(rest string) given { return r.numbers(rest, 2, math.MaxInt) }

// numbers takes at least so many numbers, at most so many, and nothing else.
func (r *reader) numbers(rest string, least, most int) given {
	var out []int
	for _, word := range strings.FieldsFunc(rest, isGap) {
		n, ok := number(word)
		if !ok {
			panic(fault{r.at})
		}
		out = append(out, n)
	}
	if len(out) < least || len(out) > most {
		panic(fault{r.at})
	}
	return given{numbers: out}
}

// number is that of a word, if it is one.
func number(word string) (int, bool) {
	const digits, most = 5, 65535
	if len(word) > digits || len(word) > 1 && word[0] == '0' {
		return 0, false
	}
	n := 0
	for _, c := range []byte(word) {
		if c < '0' || c > '9' {
			return 0, false
		}
		n = 10*n + int(c-'0')
	}
	return n, n <= most
}

// gaps are the bytes that part words.
const gaps = " \t"

func isGap(c rune) bool { return strings.ContainsRune(gaps, c) }

// saysSomething tells whether a line has words, and is no remark.
func saysSomething(line string) bool {
	line = strings.TrimLeft(line, gaps)
	return line != "" && line[0] != '#'
}

// firstWord is the first word of a line that has one, and all that stands behind the gap behind it.
func firstWord(line string) (word, rest string) {
	line = strings.TrimLeft(line, gaps)
	end := strings.IndexAny(line, gaps)
	if end < 0 {
		return line, ""
	}
	return line[:end], strings.TrimLeft(line[end:], gaps)
}
