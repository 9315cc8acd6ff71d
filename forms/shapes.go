package forms

import (
	"math"

	"dapple/api"
)

// shape is how a kind of form is written.
type shape struct {
	word  string // its keyword; names and calls have none
	ahead int    // data behind the keyword that are no forms: what is quoted, a name, a list of names or bindings
	least int    // forms behind these
	most  int
}

// noMost stands where any number will do.
const noMost = math.MaxInt

var shapes = [...]shape{
	api.FormQuote:  {"quote", 1, 0, 0},
	api.FormName:   {"", 0, 0, 0},
	api.FormIf:     {"if", 0, 2, 3},
	api.FormLambda: {"lambda", 1, 1, noMost},
	api.FormDefine: {"define", 1, 1, 1},
	api.FormSet:    {"set!", 1, 1, 1},
	api.FormBegin:  {"begin", 0, 1, noMost},
	api.FormLet:    {"let", 1, 1, noMost},
	api.FormWhile:  {"while", 0, 1, noMost},
	api.FormCall:   {"", 0, 1, noMost},
	api.FormSpawn:  {"spawn", 0, 1, 1},
	api.FormJoin:   {"join", 0, 1, 1},
	api.FormLock:   {"lock", 0, 1, 1},
	api.FormUnlock: {"unlock", 0, 1, 1},
	api.FormYield:  {"yield", 0, 0, 0},
}

// takes tells whether so many forms may stand in it.
func (s shape) takes(forms int) bool { return s.least <= forms && forms <= s.most }

// primitive is a primitive's name, and how many arguments it takes.
type primitive struct {
	name string
	args int
}

var primitives = [...]primitive{
	api.PrimCons:      {"cons", 2},
	api.PrimCar:       {"car", 1},
	api.PrimCdr:       {"cdr", 1},
	api.PrimSetCar:    {"set-car!", 2},
	api.PrimSetCdr:    {"set-cdr!", 2},
	api.PrimBox:       {"box", 1},
	api.PrimUnbox:     {"unbox", 1},
	api.PrimSetBox:    {"set-box!", 2},
	api.PrimCas:       {"cas", 3},
	api.PrimAdd:       {"add", 2},
	api.PrimEq:        {"eq?", 2},
	api.PrimIsNull:    {"null?", 1},
	api.PrimIsPair:    {"pair?", 1},
	api.PrimIsInt:     {"int?", 1},
	api.PrimPlus:      {"+", 2},
	api.PrimMinus:     {"-", 2},
	api.PrimTimes:     {"*", 2},
	api.PrimQuotient:  {"quotient", 2},
	api.PrimRemainder: {"remainder", 2},
	api.PrimLess:      {"<", 2},
	api.PrimNot:       {"not", 1},
	api.PrimError:     {"error", 1},
}

// keyword is the kind of form that a keyword begins; false, if the name is none.
func keyword(name string) (api.FormKind, bool) {
	for kind := api.FormQuote; name != "" && kind <= api.FormYield; kind++ {
		if shapes[kind].word == name {
			return kind, true
		}
	}
	return 0, false
}

// takesArguments tells whether what is called, by its name, may have so many. Only of primitives that is known here.
func takesArguments(name string, count int) bool {
	_, args, ok := Prim(name)
	return !ok || args == count
}

// isName tells whether a name may stand as a form.
func isName(name string) bool {
	_, isKeyword := keyword(name)
	return !isKeyword && canBeWritten(symbol(name))
}

// isVariable tells whether a name is a variable's.
func isVariable(name string) bool {
	_, _, isPrim := Prim(name)
	return !isPrim && isName(name)
}

// nameSet tells names that come a second time.
type nameSet map[string]struct{}

// add tells whether a name was not there yet; it is then.
func (s nameSet) add(name string) bool {
	_, known := s[name]
	s[name] = struct{}{}
	return !known
}
