package lab_test

import (
	"fmt"
	"regexp"
	"slices"
	"strconv"
	"strings"

	"dapple/api"
	"dapple/barrier"
	"dapple/code"
	"dapple/compile"
	"dapple/forms"
	"dapple/graph"
	"dapple/names"
	"dapple/par"
	"dapple/read"
	"dapple/show"
	"dapple/words"
	"dapple/world"
)

// plain is the chapter told once more: it goes through a script twice, first to see whether it may be.
type plain struct {
	out   strings.Builder
	told  int // bytes that count
	goes  int
	table *names.Table
	code  *api.Code
	world *world.World
}

// linePatterns are those of lines that may be, by what stands behind their words.
func linePatterns() []*regexp.Regexp {
	const n = `[ \t]+(?:0|[1-9][0-9]{0,4})`
	var out []*regexp.Regexp
	for _, p := range []string{
		`(?:source|names|code|collect|ready|phase|heap|free|waiting|roots|globals|live|holds)`,
		`(?:start|pick|settle|ended|show|par)` + n,
		`world` + n + n,
		`baton` + n + n + `(?:` + n + `)*`,
	} {
		out = append(out, regexp.MustCompile(`^[ \t]*`+p+`[ \t]*$`))
	}
	return append(out, regexp.MustCompile(`(?s)^[ \t]*data(?:[ \t].*)?$`), regexp.MustCompile(`(?s)^[ \t]*(?:#.*)?$`))
}

// patterns are made once, as that takes long.
var patterns = linePatterns()

// isLine tells whether a line may be.
func isLine(line string) bool {
	for _, p := range patterns {
		if p.MatchString(line) {
			line = strings.TrimLeft(line, " \t")
			if strings.HasPrefix(line, "data") || strings.HasPrefix(line, "#") {
				return true
			}
			// Noughts stand nowhere ahead: what has five digits is as great as it looks.
			tooGreat := func(word string) bool { return len(word) == 5 && word[0] <= '9' && word > "65535" }
			return !slices.ContainsFunc(strings.FieldsFunc(line, isGap), tooGreat)
		}
	}
	return false
}

func isGap(c rune) bool { return c == ' ' || c == '\t' }

// plainRun is what Run is to answer.
func plainRun(script string) (string, int, api.Errno) {
	if len(script) > 65536 {
		return "", 0, api.ErrLabLong
	}
	all := strings.Split(script, "\n")
	for i := 0; i < len(all); i++ {
		if !isLine(all[i]) {
			return "", i + 1, api.ErrLabLine
		}
		if strings.Trim(all[i], " \t") == "source" {
			at := i
			for i++; i < len(all) && all[i] != "."; i++ {
			}
			if i == len(all) {
				return "", at + 1, api.ErrLabLine
			}
		}
	}
	p := &plain{}
	p.table, _ = names.New()
	for i := 0; i < len(all); i++ {
		l := strings.FieldsFunc(all[i], isGap)
		if len(l) == 0 || l[0][0] == '#' {
			continue
		}
		text := ""
		switch l[0] {
		case "source":
			for i++; all[i] != "."; i++ {
				text += all[i] + "\n"
			}
		case "data":
			_, text, _ = strings.Cut(all[i], "data")
			text = strings.TrimLeft(text, " \t")
			l = l[:1]
		}
		p.command(text, l)
	}
	return p.out.String(), 0, api.OK
}

// command does a command, and tells of it.
func (p *plain) command(text string, l []string) {
	lines := p.lines(text, l)
	size := 0
	for _, s := range lines {
		size += len(s) + 1
	}
	if p.told+size > 1048576 {
		p.out.WriteString("full\n")
		return
	}
	p.told += size
	p.out.WriteString(strings.Join(lines, "\n") + "\n")
}

// lines are what a command tells, in so many lines.
func (p *plain) lines(text string, l []string) []string {
	switch l[0] {
	case "source", "world", "baton", "settle", "par":
		if p.goes++; p.goes > 1000 {
			return []string{"worn"}
		}
	}
	switch l[0] {
	case "source", "data", "names":
		return p.texts(text, l[0])
	case "code", "world", "baton":
		if p.code == nil {
			return []string{"none"}
		}
	default:
		if p.world == nil {
			return []string{"none"}
		}
	}
	var n []int
	for _, s := range l[1:] {
		x, _ := strconv.Atoi(s)
		n = append(n, x)
	}
	switch l[0] {
	case "code":
		s, _ := code.Text(*p.code)
		all := strings.Split(s, "\n")
		return append([]string{fmt.Sprint("code ", len(all)-1)}, all[:len(all)-1]...)
	case "world":
		var e api.Errno
		p.world, e = world.New(api.Config{Cells: n[0], Locks: n[1]}, *p.code)
		return plainOK(e)
	case "baton":
		return p.baton(n)
	}
	return p.ofWorld(l[0], append(n, 0)[0])
}

// plainError is an error, and what stands behind its number.
func plainError(e api.Errno, behind ...any) []string {
	return []string{strings.TrimSuffix(fmt.Sprintln(append([]any{"error", int(e)}, behind...)...), "\n")}
}

func plainOK(e api.Errno) []string {
	if e != 0 {
		return plainError(e)
	}
	return []string{"ok"}
}

// texts is what a source, data and names tell.
func (p *plain) texts(text, word string) []string {
	if word == "names" {
		all := p.table.All()
		return append([]string{fmt.Sprint("names ", len(all))}, all...)
	}
	data, e, at := read.Read(text)
	if e != 0 {
		return plainError(e, at)
	}
	if word == "data" {
		s, e := read.Write(data...)
		if e != 0 {
			return plainError(e, 0)
		}
		return []string{strings.TrimSuffix("data "+strings.Join(strings.Split(s, "\n"), " "), " ")}
	}
	var fs []api.Form
	for i, d := range data {
		f, e, _ := forms.Of(d)
		if e != 0 {
			return plainError(e, i)
		}
		fs = append(fs, f)
	}
	c, e, i := compile.Compile(p.table, fs...)
	if e != 0 {
		return plainError(e, i)
	}
	p.code, p.world = &c, nil
	return []string{fmt.Sprint("source ", len(c.Procs), len(c.Globals))}
}

// baton is a world without cycles, whose goroutines are one more than its threads.
func (p *plain) baton(n []int) []string {
	w, e := world.New(api.Config{Cells: n[0], Locks: n[1]}, *p.code)
	if e != 0 {
		return plainError(e)
	}
	w.Start(0)
	for _, at := range n[2:] {
		w.Pick(uint32(at))
	}
	return []string{fmt.Sprint("baton ", w.Steps(), 1+w.Threads()) + " " + p.end(w, 1)}
}

// end is what is told of a thread's end.
func (p *plain) end(w *world.World, thread int) string {
	x, e := w.Ended(thread)
	if e != 0 || x.Err != 0 {
		return fmt.Sprint("error ", int(max(e, x.Err)))
	}
	if !x.Ended {
		return "running"
	}
	return p.show(w, x.Word)
}

func (p *plain) show(w *world.World, x api.Word) string {
	s, e := show.Show(w.Heap(), p.table.All(), x)
	if e != 0 {
		return fmt.Sprint("error ", int(e))
	}
	return "= " + s
}

// plainWord is a word of api's.
func plainWord(w api.Word) string {
	tag, n, ok := words.Of(w)
	if !ok {
		return "?"
	}
	if tag < api.TagInt {
		return []string{"", "nil", "false", "true", "none"}[tag]
	}
	return string("isp@"[tag-api.TagInt]) + fmt.Sprint(n)
}

// plainList is a word, and others behind it.
func plainList[T any](word string, l []T, text func(x T) string) []string {
	for _, x := range l {
		word += " " + text(x)
	}
	return []string{word}
}

func plainNumbers(word string, l ...int) []string {
	return plainList(word, l, func(n int) string { return fmt.Sprint(n) })
}

// plainStep is a step.
func plainStep(x api.Event) []string {
	s := fmt.Sprintf("%d %d %d %d %s %s %d %s %d", x.Actor, x.What, x.Cell, x.Field, plainWord(x.Old), plainWord(x.New), x.Other, map[bool]string{false: "n", true: "y"}[x.Yes], int(x.Err))
	return plainNumbers(s, x.Shaded...)
}

// ofWorld is what a command on the world tells.
func (p *plain) ofWorld(word string, n int) []string {
	w := p.world
	switch word {
	case "start":
		thread, e := w.Start(n)
		if e != 0 {
			return plainError(e)
		}
		return plainNumbers("thread", thread)
	case "collect":
		return plainOK(w.Collect())
	case "ready":
		return plainNumbers("ready", w.Ready()...)
	case "pick":
		x, did := w.Pick(uint32(n))
		if !did {
			return []string{"idle"}
		}
		return plainStep(x)
	case "settle":
		return plainNumbers("settled", w.Settle(n))
	case "phase":
		phase, begun := w.Phase()
		return plainNumbers("phase", int(phase), begun, w.Steps())
	case "free":
		return plainNumbers("free", w.Free()...)
	case "waiting":
		return plainList("waiting", w.Waiting(), func(x api.Waiter) string { return fmt.Sprintf("%d:%d", x.Thread, x.Begun) })
	case "roots":
		return plainList("roots", w.Roots(), plainWord)
	case "globals":
		return plainList("globals", w.Globals(), plainWord)
	case "ended":
		return []string{p.end(w, n)}
	case "show":
		if l := w.Globals(); n < len(l) {
			return []string{p.show(w, l[n])}
		}
		return []string{"none"}
	}
	return p.ofHeap(word, n)
}

// ofHeap is what a command on the heap tells.
func (p *plain) ofHeap(word string, n int) []string {
	h := p.world.Heap()
	roots := p.world.Roots()
	switch word {
	case "heap":
		var l []string
		for i, c := range h {
			if c.Kind != 0 {
				l = append(l, fmt.Sprintf("%d %d %d %s %s", i, c.Kind, c.Colour, plainWord(c.A), plainWord(c.B)))
			}
		}
		return append([]string{fmt.Sprint("heap ", len(l))}, l...)
	case "live":
		order, e := graph.Order(h, roots...)
		if e != 0 {
			return plainError(e)
		}
		met := map[int]bool{}
		for _, c := range order {
			met[c] = true
		}
		s := "live"
		for i := range h {
			if met[i] {
				s += fmt.Sprint(" ", i)
			}
		}
		return []string{s}
	case "holds":
		ok, cell, e := barrier.Holds(p.world.View())
		if e != 0 {
			return plainError(e)
		}
		return []string{map[bool]string{true: "y", false: fmt.Sprint("n ", cell)}[ok]}
	case "par":
		_, freed, s, e := par.Collect(h, n, roots...)
		if e != 0 {
			return plainError(e)
		}
		return plainNumbers("par", append([]int{s.Greyed, s.Scanned, s.Freed}, freed...)...)
	}
	panic(word)
}
