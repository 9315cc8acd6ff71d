package code

import (
	"dapple/api"
)

// opNames is what each instruction is called in a text.
var opNames = [...]string{
	api.OpConst:     "const",
	api.OpVar:       "var",
	api.OpSetVar:    "setvar",
	api.OpGlobal:    "global",
	api.OpSetGlobal: "setglobal",
	api.OpClosure:   "closure",
	api.OpPop:       "pop",
	api.OpJump:      "jump",
	api.OpBranch:    "branch",
	api.OpCall:      "call",
	api.OpTail:      "tail",
	api.OpReturn:    "return",
	api.OpPrim:      "prim",
	api.OpSpawn:     "spawn",
	api.OpJoin:      "join",
	api.OpLock:      "lock",
	api.OpUnlock:    "unlock",
	api.OpYield:     "yield",
}

// tagNames is what each constant's tag is called in a text; a reference is no constant, and has no name.
var tagNames = [...]string{
	api.TagNil:    "nil",
	api.TagFalse:  "false",
	api.TagTrue:   "true",
	api.TagNone:   "none",
	api.TagInt:    "int",
	api.TagSymbol: "symbol",
	api.TagPrim:   "prim",
}

// primTakes is how many arguments each primitive has.
var primTakes = [...]int{
	api.PrimCons:      2,
	api.PrimCar:       1,
	api.PrimCdr:       1,
	api.PrimSetCar:    2,
	api.PrimSetCdr:    2,
	api.PrimBox:       1,
	api.PrimUnbox:     1,
	api.PrimSetBox:    2,
	api.PrimCas:       3,
	api.PrimAdd:       2,
	api.PrimEq:        2,
	api.PrimIsNull:    1,
	api.PrimIsPair:    1,
	api.PrimIsInt:     1,
	api.PrimPlus:      2,
	api.PrimMinus:     2,
	api.PrimTimes:     2,
	api.PrimQuotient:  2,
	api.PrimRemainder: 2,
	api.PrimLess:      2,
	api.PrimNot:       1,
	api.PrimError:     1,
}

// isOp tells whether there is such an instruction.
func isOp(op api.Op) bool { return api.OpConst <= op && op <= api.OpYield }

// hasNumber tells whether an instruction's A says something: of all others it is 0, and not written.
func hasNumber(op api.Op) bool {
	switch op {
	case api.OpPop, api.OpReturn, api.OpSpawn, api.OpJoin, api.OpLock, api.OpUnlock, api.OpYield:
		return false
	}
	return true
}

// tagHasNumber tells whether a tag has more than one word.
func tagHasNumber(tag api.Tag) bool { return tag >= api.TagInt }

// takes is how many words an instruction takes from the stack's top.
func takes(i api.Instr) int {
	switch i.Op {
	case api.OpConst, api.OpVar, api.OpGlobal, api.OpClosure, api.OpJump, api.OpYield:
		return 0
	case api.OpCall, api.OpTail:
		return i.A + 1
	case api.OpPrim:
		return primTakes[i.A]
	}
	return 1
}

// puts is how many words it puts there.
func puts(i api.Instr) int {
	switch i.Op {
	case api.OpPop, api.OpJump, api.OpBranch, api.OpTail, api.OpReturn:
		return 0
	}
	return 1
}
