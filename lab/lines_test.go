package lab_test

import (
	"fmt"
	"runtime"
	"strings"
	"testing"

	"dapple/api"
	"dapple/lab"
)

// shape is a command, and how many numbers stand behind its word: -1: any text; -2: a source.
type shape struct {
	word        string
	least, most int
	starred     bool
	needs       string // what must be at hand for it
}

// shapes are those of the chapter's table, in its order.
func shapes() []shape {
	return []shape{
		{"source", -2, -2, true, ""},
		{"data", -1, -1, false, ""},
		{"names", 0, 0, false, ""},
		{"code", 0, 0, false, "code"},
		{"world", 2, 2, true, "code"},
		{"baton", 2, 1000, true, "code"},
		{"start", 1, 1, false, "world"},
		{"collect", 0, 0, false, "world"},
		{"ready", 0, 0, false, "world"},
		{"pick", 1, 1, false, "world"},
		{"settle", 1, 1, true, "world"},
		{"phase", 0, 0, false, "world"},
		{"heap", 0, 0, false, "world"},
		{"free", 0, 0, false, "world"},
		{"waiting", 0, 0, false, "world"},
		{"roots", 0, 0, false, "world"},
		{"globals", 0, 0, false, "world"},
		{"ended", 1, 1, false, "world"},
		{"show", 1, 1, false, "world"},
		{"live", 0, 0, false, "world"},
		{"holds", 0, 0, false, "world"},
		{"par", 1, 1, true, "world"},
	}
}

// command is one of a shape, with so many of that number.
func (s shape) command(count int, number string) string {
	return s.word + strings.Repeat(" "+number, count)
}

// wellFormed is a command of a shape that may be: of as many lines as it takes.
func (s shape) wellFormed() string {
	switch s.least {
	case -2:
		return "source\n1\n."
	case -1:
		return "data (a b)"
	}
	return s.command(s.least, "1")
}

// TestHowMany: each command with just what it needs, with a word too few, and with one too many.
func TestHowMany(t *testing.T) {
	for _, s := range shapes() {
		told(t, s.wellFormed())
		if s.least < 0 {
			continue
		}
		for count := range 6 {
			script := "\n" + s.command(count, "1") + "\nnames"
			if count >= s.least && count <= s.most {
				told(t, script)
			} else {
				refuses(t, script, 2)
			}
		}
		if s.most > 5 {
			told(t, s.command(s.most, "1"))
			told(t, s.command(9000, "1"))
		}
		refuses(t, s.command(s.least, "1")+" x", 1)
	}
	for _, word := range []string{"source 1", "source .", "source source", "source\t#"} {
		refuses(t, word+"\n1\n.\n", 1)
	}
}

// goodNumbers are such as may stand in a line.
func goodNumbers() []string {
	return []string{"0", "1", "9", "10", "90", "99", "100", "1000", "9999", "10000", "59999", "60000", "65000", "65499", "65500", "65529", "65530", "65534", "65535"}
}

// wrongNumbers are words that are none.
func wrongNumbers() []string {
	return []string{
		"00", "01", "007", "000", "065535", "00000", "65536", "65537", "65540", "65600", "66000", "70000", "99999", "100000", "655350", "131071",
		"4294967296", "4294967297", "18446744073709551616", "18446744073709551617", "99999999999999999999999999",
		"-0", "-1", "+0", "+1", "-", "+", "0x1", "1x", "x1", "1.", "1.0", ".", "1e1", "1_0", "0b1", "i5", "@0", "one", "#", "#1", "1#", "'1", "\"1\"", "1,", ",", "1;",
		"\r", "1\r", "1\v", "1\f", "1\x00", "\x00", "\u0661", "\uff11", "1\u00a0", "\u00a01", "\x80", "1\xff", "²", "/", ":", "0/", "0:", "1/1",
	}
}

// TestNumbers: digits without noughts ahead, at most 65535; at each place of each command that takes some.
func TestNumbers(t *testing.T) {
	for _, s := range shapes() {
		if s.most < 1 {
			continue
		}
		for place := range min(s.most, 4) {
			with := func(number string) string {
				l := strings.Fields(strings.Repeat("1 ", max(s.least, place+1)))
				l[place] = number
				return s.word + " " + strings.Join(l, " ")
			}
			for _, n := range goodNumbers() {
				told(t, with(n))
			}
			for _, n := range wrongNumbers() {
				refuses(t, "names\n"+with(n)+"\n", 2)
			}
		}
	}
}

// TestAllNumbers: each from 0 to 65535 is taken as what it says: who is picked of seven tells it.
func TestAllNumbers(t *testing.T) {
	const threads, picks = 7, 5000
	for from := 0; from <= 65535; from += picks {
		script := []string{source("(while #t (yield))") + "world 4 0"}
		want := []string{"source 1 0", "ok"}
		for n := range threads {
			script, want = append(script, "start 0"), append(want, fmt.Sprint("thread ", n+1))
		}
		for n := from; n < from+picks && n <= 65535; n++ {
			script, want = append(script, fmt.Sprint("pick ", n)), append(want, fmt.Sprintf("%d 15 0 0 ? ? 0 n 0", 1+n%threads))
		}
		tells(t, lines(script...), want...)
	}
}

// TestGaps: words are parted by blanks and tabs, one or more, which stand at both ends, too.
func TestGaps(t *testing.T) {
	want := told(t, example2())
	for _, gap := range []string{" ", "\t", "  ", "\t\t", " \t", "\t ", " \t \t  \t\t"} {
		var script []string
		inSource := false
		for line := range strings.Lines(example2()) {
			line = strings.TrimSuffix(line, "\n")
			if !inSource {
				inSource = line == "source"
				line = gap + strings.ReplaceAll(line, " ", gap) + gap
			} else if line == "." {
				inSource = false
			}
			script = append(script, line)
		}
		if got := told(t, lines(script...)); got != want {
			t.Errorf("%q between words: %q", gap, got)
		}
	}
}

// TestOtherBytesPartNothing: nothing but blanks and tabs stands between words.
func TestOtherBytesPartNothing(t *testing.T) {
	for _, gap := range []string{"", "\r", "\v", "\f", "\x00", "\u00a0", "\u2003", "\u0085", ",", ";", "\xa0", "\x85"} {
		refuses(t, "world"+gap+"4 0", 1)
		refuses(t, "world 4"+gap+"0", 1)
		if gap != "" {
			refuses(t, "names"+gap, 1)
			refuses(t, gap+"names", 1)
			refuses(t, "names\n"+gap+"\nnames", 2)
		}
	}
}

// TestUnknownWords: what is no command's word, letter by letter.
func TestUnknownWords(t *testing.T) {
	for _, s := range shapes() {
		rest := strings.TrimPrefix(s.wellFormed(), s.word)
		for _, word := range []string{strings.ToUpper(s.word), strings.ToUpper(s.word[:1]) + s.word[1:], s.word[1:], s.word[:len(s.word)-1], s.word + "s", s.word + "*", s.word + ":", "." + s.word, s.word + "#", "'" + s.word, s.word + "\x00", s.word + s.word} {
			refuses(t, "\t\n#\n"+word+rest, 3)
		}
	}
	for _, word := range []string{".", " .", "..", "full", "worn", "none", "error", "ok", "thread", "idle", "1", "0", "(a b)", "'", ";", "; names", "//", "-", "wrong 260 1"} {
		refuses(t, word, 1)
	}
}

// TestRemarks: a line whose first byte that is neither a blank nor a tab is '#' says nothing; elsewhere it is a byte as any other.
func TestRemarks(t *testing.T) {
	for _, line := range []string{"#", "##", "# names", "#names", " # fly", "\t#", " \t \t#fly # names", "#\tfly", "# source", "#\x00\xff"} {
		tells(t, line)
		tells(t, lines("names", line, "names"), "names 0", "names 0")
	}
	for _, line := range []string{"names #", "names # none", "names#", "world 4 0 # a world", "pick # 0"} {
		refuses(t, line, 1)
	}
	tells(t, "data # a", "error 51 0")
	tells(t, "data #t # a", "error 51 3")
}

// TestLineNumbers: lines are counted from 1 on, those that say nothing and those of sources, too.
func TestLineNumbers(t *testing.T) {
	for ahead := range 40 {
		refuses(t, strings.Repeat("\n", ahead)+"fly", ahead+1)
		refuses(t, strings.Repeat(" \t\n# a\n", ahead)+"fly\nfly\n", 2*ahead+1)
		refuses(t, strings.Repeat("names\n", ahead)+"fly", ahead+1)
		refuses(t, source(strings.Repeat("1\n", ahead))+"fly", ahead+4)
		refuses(t, strings.Repeat(source("a\n\n. "), ahead)+"fly", 5*ahead+1)
	}
	refuses(t, strings.Repeat("\n", 65533)+"fly", 65534)
	refuses(t, strings.Repeat("\n", 65535)+"x", 65536)
}

// TestFirstWrongLine: of two wrong lines the first one is told, whatever is wrong with each.
func TestFirstWrongLine(t *testing.T) {
	wrong := []string{"fly", "pick", "pick 01", "ready 1", "world 4", "baton 4", "source 1", ".", "pick 65536", "data\x00"}
	for _, a := range wrong {
		for _, b := range wrong {
			refuses(t, lines("names", a, "names", b), 2)
		}
		refuses(t, lines("names", a, "source", "1"), 2)
		if a != "." {
			refuses(t, lines("source", a, ".", a), 4)
		}
	}
}

// TestNewlineAtTheEnd: with and without one.
func TestNewlineAtTheEnd(t *testing.T) {
	for _, s := range shapes() {
		script := s.wellFormed()
		if a, b, c := told(t, script), told(t, script+"\n"), told(t, "\n"+script+"\n\n"); a != b || a != c || !strings.HasSuffix(a, "\n") {
			t.Errorf("%q: %q, %q, %q", script, a, b, c)
		}
		refuses(t, "fly\n"+script, 1)
	}
	tells(t, "names\nnames", "names 0", "names 0")
	tells(t, "source\n1\n.", "source 1 0")
	refuses(t, "names\nfly", 2)
	refuses(t, "names\nfly\n", 2)
	refuses(t, "names\r\n", 1)
}

// long is a script of so many bytes that begins with this one.
func long(script string, bytes int) string { return script + strings.Repeat("#", bytes-len(script)) }

// TestLong: 65536 bytes may be, one more not, whatever they say; that is told ahead of a wrong line.
func TestLong(t *testing.T) {
	for _, c := range []struct {
		script string
		want   []string
	}{
		{"", nil}, {"names\n", []string{"names 0"}}, {example2() + "\n", toldBy2()}, {"names\n \n", []string{"names 0"}},
	} {
		for _, bytes := range []int{65535, 65536} {
			tells(t, long(c.script, bytes), c.want...)
		}
		for _, bytes := range []int{65537, 65538, 70000, 1 << 17, 1 << 20} {
			if s, line, e := lab.Run(long(c.script, bytes)); s != "" || line != 0 || e != api.ErrLabLong {
				t.Errorf("%d bytes: %q, %d, %d", bytes, cut(s), line, e)
			}
		}
	}
	refuses(t, long("names\nfly\n", 65536), 2)
	for _, script := range []string{long("names\nfly\n", 65537), long("source\n1\n", 65537), strings.Repeat("\n", 65537), strings.Repeat(" ", 65537), strings.Repeat("names\n", 20000)} {
		if s, line, e := lab.Run(script); s != "" || line != 0 || e != api.ErrLabLong {
			t.Errorf("%d bytes: %q, %d, %d", len(script), cut(s), line, e)
		}
	}
	tells(t, strings.Repeat("\n", 65536))
	tells(t, strings.Repeat(" ", 65536))
	tells(t, strings.Repeat("\t", 65530)+"names ", "names 0")
	tells(t, strings.Repeat("names\n", 10000), strings.Split(strings.Repeat("names 0,", 10000), ",")[:10000]...)
}

// allocated is how many bytes something allocates, at least.
func allocated(do func()) uint64 {
	var was, is runtime.MemStats
	runtime.ReadMemStats(&was)
	do()
	runtime.ReadMemStats(&is)
	return is.TotalAlloc - was.TotalAlloc
}

// TestNothingIsDone: where a line is wrong, no command ahead of it is done: 900 worlds of 4096 cells take memory, if they are made.
func TestNothingIsDone(t *testing.T) {
	worlds := consing() + strings.Repeat("world 4096 8\n", 900)
	done := allocated(func() { told(t, worlds) })
	for _, wrong := range []string{"fly", "source", "pick 01", "names 1"} {
		refused := allocated(func() { refuses(t, worlds+wrong, 904) })
		if refused*10 > done {
			t.Errorf("%d bytes of memory, and %d where a line is wrong", done, refused)
		}
	}
}
