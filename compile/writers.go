package compile

import (
	"dapple/api"
	"dapple/forms"
)

// writers are what writes each kind of form, at the kind's own place. Place 0 is no kind's.
type writers [api.FormYield + 1]func(*procedure, api.Form, bool)

func writersByKind() writers {
	return writers{
		api.FormQuote:  (*procedure).writeQuote,
		api.FormName:   (*procedure).writeName,
		api.FormIf:     (*procedure).writeIf,
		api.FormLambda: (*procedure).writeLambda,
		api.FormDefine: (*procedure).writeSet,
		api.FormSet:    (*procedure).writeSet,
		api.FormBegin:  (*procedure).writeBegin,
		api.FormLet:    (*procedure).writeLet,
		api.FormWhile:  (*procedure).writeWhile,
		api.FormCall:   (*procedure).writeCall,
		api.FormSpawn:  (*procedure).writeSpawn,
		api.FormJoin:   (*procedure).writeJoin,
		api.FormLock:   (*procedure).writeLock,
		api.FormUnlock: (*procedure).writeUnlock,
		api.FormYield:  (*procedure).writeYield,
	}
}

func (p *procedure) writeQuote(f api.Form, _ bool) { p.datum(f.Datum) }

func (p *procedure) writeName(f api.Form, _ bool) {
	if up, ok := p.find(f.Text); ok {
		p.put(api.OpVar, up)
		return
	}
	if prim, _, ok := forms.Prim(f.Text); ok {
		p.constant(api.TagPrim, int64(prim))
		return
	}
	p.put(api.OpGlobal, p.globals.number(f.Text))
}

func (p *procedure) writeIf(f api.Form, last bool) {
	p.form(f.Kids[0], false)
	branch := p.put(api.OpBranch, 0)
	p.form(f.Kids[1], last)
	if last {
		p.aim(branch)
		p.otherArm(f, true)
		return
	}
	jump := p.put(api.OpJump, 0)
	p.aim(branch)
	p.otherArm(f, false)
	p.aim(jump)
}

// otherArm writes what an if does with #f.
func (p *procedure) otherArm(f api.Form, last bool) {
	if len(f.Kids) > 2 {
		p.form(f.Kids[2], last)
		return
	}
	p.constant(api.TagNone, 0)
	if last {
		p.put(api.OpReturn, 0)
	}
}

func (p *procedure) writeLambda(f api.Form, _ bool) {
	number := p.closure(len(f.Names))
	p.within(number, f.Names, f.Kids)
}

func (p *procedure) writeSet(f api.Form, _ bool) {
	// Its name is met ahead of the names in its form.
	op, a := p.setter(f.Text)
	p.form(f.Kids[0], false)
	p.put(op, a)
}

// setter is the instruction that gives a name another word.
func (p *procedure) setter(name string) (api.Op, int) {
	if up, ok := p.find(name); ok {
		return api.OpSetVar, up
	}
	return api.OpSetGlobal, p.globals.number(name)
}

func (p *procedure) writeBegin(f api.Form, last bool) { p.row(f.Kids, last) }

func (p *procedure) writeLet(f api.Form, last bool) {
	count := len(f.Names)
	number := p.closure(count)
	p.values(f.Kids[:count])
	p.call(count, last)
	p.within(number, f.Names, f.Kids[count:])
}

func (p *procedure) writeWhile(f api.Form, _ bool) {
	from := len(p.code)
	p.form(f.Kids[0], false)
	branch := p.put(api.OpBranch, 0)
	p.dropped(f.Kids[1:])
	p.put(api.OpJump, from)
	p.aim(branch)
	p.constant(api.TagNone, 0)
}

func (p *procedure) writeCall(f api.Form, last bool) {
	if prim, ok := calledPrim(f); ok {
		p.values(f.Kids[1:])
		p.put(api.OpPrim, int(prim))
		return
	}
	p.values(f.Kids)
	p.call(len(f.Kids)-1, last)
}

func (p *procedure) writeSpawn(f api.Form, _ bool) { p.only(f, api.OpSpawn) }

func (p *procedure) writeJoin(f api.Form, _ bool) { p.only(f, api.OpJoin) }

func (p *procedure) writeLock(f api.Form, _ bool) { p.only(f, api.OpLock) }

func (p *procedure) writeUnlock(f api.Form, _ bool) { p.only(f, api.OpUnlock) }

// only writes what is done with the value of the only form within f.
func (p *procedure) only(f api.Form, op api.Op) {
	p.form(f.Kids[0], false)
	p.put(op, 0)
}

func (p *procedure) writeYield(api.Form, bool) { p.put(api.OpYield, 0) }
