package compile

import (
	"strings"

	"dapple/api"
	"dapple/code"
	"dapple/forms"
	"dapple/names"
)

// maker is what all procedures of one code share while it is made.
type maker struct {
	table   *names.Table
	writers writers
	consts  book[api.Word]
	globals book[string]
	procs   []api.Proc
	refused api.Errno // why the table did not take a symbol: none behind it is laid down
}

func newMaker(t *names.Table) *maker {
	return &maker{
		table:   t,
		writers: writersByKind(),
		consts:  newBook[api.Word](),
		globals: newBook[string](),
		procs:   make([]api.Proc, 1),
	}
}

// add makes a form more at the end of procedure 0. With an error what was made is of no use any more.
func (m *maker) add(f api.Form) api.Errno {
	if e := forms.Check(f); e != api.OK {
		return e
	}
	known := len(m.procs)
	m.addToFirst(f)
	switch {
	case m.refused != api.OK:
		return m.refused
	case len(m.globals.list) > api.MaxGlobals:
		return api.ErrCompileGlobal
	case !m.isTaken(known):
		return api.ErrCompileMuch
	}
	return api.OK
}

// addToFirst writes a form and an OpReturn into procedure 0, which so has its end whether others come or not.
func (m *maker) addToFirst(f api.Form) {
	p := procedure{maker: m, code: m.procs[0].Code}
	if end := len(p.code) - 1; end >= 0 {
		p.code[end].Op = api.OpPop
	}
	p.form(f, false)
	p.put(api.OpReturn, 0)
	m.procs[0].Code = p.code
}

// isTaken tells whether all that is made up to now is no more than may be. Procedures below known were taken with an earlier form:
// in their places stand short ones, so that long code is not gone through again for each form.
func (m *maker) isTaken(known int) bool {
	procs := make([]api.Proc, len(m.procs))
	short := []api.Instr{{Op: api.OpYield}, {Op: api.OpReturn}}
	for i := range known {
		procs[i].Code = short
	}
	copy(procs[known:], m.procs[known:])
	procs[0] = m.procs[0]
	e, _, _ := code.Check(api.Code{Consts: m.consts.list, Procs: procs, Globals: m.globals.list})
	return e == api.OK
}

// made is the code of all forms.
func (m *maker) made() api.Code {
	if len(m.procs[0].Code) == 0 {
		p := procedure{maker: m}
		p.constant(api.TagNone, 0)
		p.put(api.OpReturn, 0)
		m.procs[0].Code = p.code
	}
	// A name may be cut out of a long source, all of which it would keep.
	for i, name := range m.globals.list {
		m.globals.list[i] = strings.Clone(name)
	}
	return api.Code{Consts: m.consts.list, Procs: m.procs, Globals: m.globals.list}
}

// symbol is the number of a quoted symbol; 0, if the table has refused one.
func (m *maker) symbol(text string) int {
	if m.refused != api.OK {
		return 0
	}
	n, e := m.table.Intern(text)
	m.refused = e
	return n
}
