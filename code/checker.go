package code

import (
	"slices"

	"dapple/api"
	"dapple/lex"
	"dapple/words"
)

// checkLists is the error of what stands outside of single procedures.
func checkLists(c api.Code) api.Errno {
	if len(c.Procs) > api.MaxProcs || len(c.Consts) > api.MaxConsts || len(c.Globals) > api.MaxGlobals {
		return api.ErrMuch
	}
	if len(c.Procs) == 0 {
		return api.ErrCodeForm
	}
	for _, w := range c.Consts {
		if !isConst(w) {
			return api.ErrCodeForm
		}
	}
	for i, name := range c.Globals {
		if !lex.IsSymbol(name) || slices.Contains(c.Globals[:i], name) {
			return api.ErrCodeForm
		}
	}
	return api.OK
}

// isConst tells whether a word may be a constant: code knows of no heap, so references mean nothing in it.
func isConst(w api.Word) bool {
	tag, _, ok := words.Of(w)
	return ok && tag != api.TagRef
}

// checkProc is the error of one procedure of c, and the place of the instruction that has it.
func checkProc(c api.Code, p api.Proc) (api.Errno, int) {
	if len(p.Code) > api.MaxCode {
		return api.ErrMuch, 0
	}
	if p.Params < 0 || p.Params > api.MaxStack || len(p.Code) == 0 {
		return api.ErrCodeForm, 0
	}
	for place, i := range p.Code {
		if !isOp(i.Op) || !fits(c, p, i) {
			return api.ErrCodeForm, place
		}
	}
	if last := len(p.Code) - 1; !ends(p.Code[last].Op) {
		return api.ErrCodeForm, last
	}
	if place, ok := leastWrong(p.Code); ok {
		return api.ErrCodeForm, place
	}
	return api.OK, 0
}

// fits tells whether an instruction's A is one that it may have, in the procedure p of c.
func fits(c api.Code, p api.Proc, i api.Instr) bool {
	least, most := 0, 0
	switch i.Op {
	case api.OpConst:
		most = len(c.Consts) - 1
	case api.OpGlobal, api.OpSetGlobal:
		most = len(c.Globals) - 1
	case api.OpClosure:
		most = len(c.Procs) - 1
	case api.OpJump, api.OpBranch:
		most = len(p.Code) - 1
	case api.OpVar, api.OpSetVar, api.OpCall, api.OpTail:
		most = api.MaxStack
	case api.OpPrim:
		least, most = int(api.PrimCons), int(api.PrimError)
	}
	return least <= i.A && i.A <= most
}

// ends tells whether no way goes on to the next place behind such an instruction.
func ends(op api.Op) bool {
	return op == api.OpReturn || op == api.OpTail || op == api.OpJump
}
