package compile

import (
	"dapple/api"
	"dapple/forms"
	"dapple/words"
)

// procedure is one that is being written. What is met in it is found in what all share, and in the names around it.
type procedure struct {
	*maker
	*scope
	code []api.Instr
}

// put lays an instruction behind those that are there, and tells its place.
func (p *procedure) put(op api.Op, a int) int {
	p.code = append(p.code, api.Instr{Op: op, A: a})
	return len(p.code) - 1
}

// aim lets the jump or the branch at a place lead to what is put next.
func (p *procedure) aim(place int) { p.code[place].A = len(p.code) }

// constant puts what pushes a word.
func (p *procedure) constant(tag api.Tag, n int64) {
	// Data that may be have no numbers that words have not.
	w, _ := words.Make(tag, n)
	p.put(api.OpConst, p.consts.number(w))
}

// form writes one form; with last it is in tail place, and ends the procedure.
func (p *procedure) form(f api.Form, last bool) {
	p.writers[f.Kind](p, f, last)
	if last && !endsByItself(f) {
		p.put(api.OpReturn, 0)
	}
}

// row writes forms of which the last one's value alone is asked for.
func (p *procedure) row(l []api.Form, last bool) {
	end := len(l) - 1
	p.dropped(l[:end])
	p.form(l[end], last)
}

// dropped writes forms of whose values none is asked for.
func (p *procedure) dropped(l []api.Form) {
	for _, f := range l {
		p.form(f, false)
		p.put(api.OpPop, 0)
	}
}

// values writes forms whose values all stay on the stack.
func (p *procedure) values(l []api.Form) {
	for _, f := range l {
		p.form(f, false)
	}
}

// closure takes the next number for a procedure, and puts what pushes a closure of it.
func (p *procedure) closure(params int) int {
	number := len(p.procs)
	p.procs = append(p.procs, api.Proc{Params: params})
	p.put(api.OpClosure, number)
	return number
}

// within writes the forms of the procedure that has a number, where names are bound that stand within those at hand.
func (p *procedure) within(number int, names []string, l []api.Form) {
	inner := procedure{maker: p.maker, scope: &scope{scope: p.scope, names: names}}
	inner.row(l, true)
	p.procs[number].Code = inner.code
}

// call puts the call of what stands below so many arguments.
func (p *procedure) call(args int, last bool) {
	if last {
		p.put(api.OpTail, args)
		return
	}
	p.put(api.OpCall, args)
}

// endsByItself tells whether in tail place nothing is put behind a form: a call takes the procedure's place, and of others what is last within them ends it.
func endsByItself(f api.Form) bool {
	switch f.Kind {
	case api.FormIf, api.FormBegin, api.FormLet:
		return true
	case api.FormCall:
		_, isPrim := calledPrim(f)
		return !isPrim
	}
	return false
}

// calledPrim is the primitive that a call names; false, if it calls something else.
func calledPrim(f api.Form) (api.Prim, bool) {
	head := f.Kids[0]
	if head.Kind != api.FormName {
		return 0, false
	}
	prim, _, ok := forms.Prim(head.Text)
	return prim, ok
}
