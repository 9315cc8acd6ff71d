package vm

import (
	"dapple/api"
	"dapple/words"
)

// primitive is one that there is: how many arguments it takes, and what its value is.
type primitive struct {
	takes int
	value func(*step, []api.Word) api.Word
}

// primitives are all of them, by their numbers.
func primitives() [api.PrimError + 1]primitive {
	return [...]primitive{
		api.PrimCons:      {2, (*step).cons},
		api.PrimCar:       {1, (*step).car},
		api.PrimCdr:       {1, (*step).cdr},
		api.PrimSetCar:    {2, (*step).setCar},
		api.PrimSetCdr:    {2, (*step).setCdr},
		api.PrimBox:       {1, (*step).box},
		api.PrimUnbox:     {1, (*step).unbox},
		api.PrimSetBox:    {2, (*step).setBox},
		api.PrimCas:       {3, (*step).casBox},
		api.PrimAdd:       {2, (*step).addBox},
		api.PrimEq:        {2, (*step).isSame},
		api.PrimIsNull:    {1, (*step).isNull},
		api.PrimIsPair:    {1, (*step).isPair},
		api.PrimIsInt:     {1, (*step).isInt},
		api.PrimPlus:      {2, (*step).plus},
		api.PrimMinus:     {2, (*step).minus},
		api.PrimTimes:     {2, (*step).times},
		api.PrimQuotient:  {2, (*step).quotient},
		api.PrimRemainder: {2, (*step).remainder},
		api.PrimLess:      {2, (*step).less},
		api.PrimNot:       {1, (*step).not},
		api.PrimError:     {1, (*step).raise},
	}
}

func (s *step) primitive(a int) {
	p := primitives()[a]
	if w := p.value(s, s.stack[len(s.stack)-p.takes:]); !s.waits() {
		s.value(p.takes, w)
	}
}

// pair is the cell of the pair that a word must refer to.
func (s *step) pair(w api.Word) int { return s.cell(w, api.KindPair, api.ErrWordKind) }

// boxed is the cell of the box that a word must refer to.
func (s *step) boxed(w api.Word) int { return s.cell(w, api.KindBox, api.ErrWordKind) }

// set makes a STORE: nothing.
func (s *step) set(cell, field int, w api.Word) api.Word {
	s.store(cell, field, w)
	return sole(api.TagNone)
}

// sure is a word, if e is none.
func (s *step) sure(w api.Word, e api.Errno) api.Word {
	s.mind(e)
	return w
}

func (s *step) cons(l []api.Word) api.Word { return s.alloc(api.KindPair, l[0], l[1]) }

func (s *step) car(l []api.Word) api.Word { return s.load(s.pair(l[0]), 0) }

func (s *step) cdr(l []api.Word) api.Word { return s.load(s.pair(l[0]), 1) }

func (s *step) setCar(l []api.Word) api.Word { return s.set(s.pair(l[0]), 0, l[1]) }

func (s *step) setCdr(l []api.Word) api.Word { return s.set(s.pair(l[0]), 1, l[1]) }

func (s *step) box(l []api.Word) api.Word { return s.alloc(api.KindBox, l[0], sole(api.TagNil)) }

func (s *step) unbox(l []api.Word) api.Word { return s.load(s.boxed(l[0]), 0) }

func (s *step) setBox(l []api.Word) api.Word { return s.set(s.boxed(l[0]), 0, l[1]) }

func (s *step) casBox(l []api.Word) api.Word { return truth(s.exchange(s.boxed(l[0]), l[1], l[2])) }

func (s *step) addBox(l []api.Word) api.Word { return s.add(s.boxed(l[0]), l[1]) }

func (s *step) isSame(l []api.Word) api.Word { return truth(l[0] == l[1]) }

func (s *step) isNull(l []api.Word) api.Word { return truth(l[0] == sole(api.TagNil)) }

func (s *step) isPair(l []api.Word) api.Word {
	cell, ok := words.Cell(l[0])
	return truth(ok && s.heap.Kind(cell) == api.KindPair)
}

func (s *step) isInt(l []api.Word) api.Word {
	tag, _, _ := words.Of(l[0])
	return truth(tag == api.TagInt)
}

func (s *step) plus(l []api.Word) api.Word { return s.sure(words.Add(l[0], l[1])) }

func (s *step) minus(l []api.Word) api.Word { return s.sure(words.Sub(l[0], l[1])) }

func (s *step) times(l []api.Word) api.Word { return s.sure(words.Mul(l[0], l[1])) }

func (s *step) quotient(l []api.Word) api.Word { return s.sure(words.Quo(l[0], l[1])) }

func (s *step) remainder(l []api.Word) api.Word { return s.sure(words.Rem(l[0], l[1])) }

func (s *step) less(l []api.Word) api.Word {
	is, e := words.Less(l[0], l[1])
	s.mind(e)
	return truth(is)
}

func (s *step) not(l []api.Word) api.Word { return truth(!words.True(l[0])) }

func (s *step) raise([]api.Word) api.Word {
	s.fail(api.ErrVMRaised)
	return 0
}
