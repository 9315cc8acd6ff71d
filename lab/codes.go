package lab

import (
	"strconv"
	"strings"

	"dapple/api"
	"dapple/baton"
	"dapple/code"
	"dapple/compile"
	"dapple/forms"
	"dapple/read"
	"dapple/world"
)

// makeCode makes code of a source. With an error what is at hand stays, but for names.
func (h *hand) makeCode(g given) string {
	l, e, place := formsOf(g.text)
	if e != api.OK {
		return tellError(e, place)
	}
	made, e, place := compile.Compile(h.table, l...)
	if e != api.OK {
		return tellError(e, place)
	}
	h.code, h.world = &made, nil
	return tellNumbers("source", len(made.Procs), len(made.Globals))
}

// formsOf are the forms of a source; with an error its place: read's, or the number of the datum.
func formsOf(source string) ([]api.Form, api.Errno, int) {
	data, e, at := read.Read(source)
	if e != api.OK {
		return nil, e, at
	}
	out := make([]api.Form, len(data))
	for i, d := range data {
		if out[i], e, _ = forms.Of(d); e != api.OK {
			return nil, e, i
		}
	}
	return out, api.OK, 0
}

// data reads data, and writes them.
func (h *hand) data(g given) string {
	data, e, at := read.Read(g.text)
	if e != api.OK {
		return tellError(e, at)
	}
	text, e := read.Write(data...)
	switch {
	case e != api.OK:
		return tellError(e, 0)
	case text == "":
		return tell("data")
	}
	return tellText("data", text)
}

func (h *hand) names(given) string {
	l := h.table.All()
	var out strings.Builder
	out.WriteString(tellNumbers("names", len(l)))
	for _, name := range l {
		out.WriteString(tell(name))
	}
	return out.String()
}

func (h *hand) codeText(given) string {
	text, e := code.Text(*h.code)
	if e != api.OK {
		return tellError(e)
	}
	return tellNumbers("code", strings.Count(text, "\n")) + text
}

// config is that of two numbers.
func (g given) config() api.Config { return api.Config{Cells: g.numbers[0], Locks: g.numbers[1]} }

// makeWorld makes a world of the code. With an error there is none behind it.
func (h *hand) makeWorld(g given) string {
	made, e := world.New(g.config(), *h.code)
	h.world = made
	return tellOK(e)
}

// handBaton lets a baton of the code go a step for each pick.
func (h *hand) handBaton(g given) string {
	b, e := baton.New(g.config(), *h.code)
	if e != api.OK {
		return tellError(e)
	}
	thread, e := b.Start(0)
	if e != api.OK {
		b.Close()
		return tellError(e)
	}
	for _, n := range g.numbers[2:] {
		b.Pick(uint32(n))
	}
	closed := b.Close()
	return "baton " + strconv.Itoa(b.Steps()) + " " + strconv.Itoa(closed) + " " + h.ending(b, thread)
}
