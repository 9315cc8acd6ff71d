package read

import "dapple/api"

// reader reads tokens from the left. The last one is the end, behind which it never goes: where a datum must stand, the end is refused.
type reader struct {
	tokens []api.Token
	next   int
	open   int // brackets and quotes that are not closed yet
	count  int // data, as they are written
}

// data are all that are left.
func (r *reader) data() []api.Datum {
	var l []api.Datum
	for r.kind() != api.TokenEnd {
		l = append(l, r.datum())
	}
	return l
}

// datum is the one with whose first token the reader goes on.
func (r *reader) datum() api.Datum {
	t := r.take()
	switch t.Kind {
	case api.TokenOpen:
		r.enter(t, 1)
		defer r.leave()
		return r.list()
	case api.TokenQuote:
		r.enter(t, 2)
		defer r.leave()
		return r.quoted()
	case api.TokenInt:
		r.add(t, 1)
		return api.Datum{Kind: api.DatumInt, N: t.N}
	case api.TokenSymbol:
		r.add(t, 1)
		return symbol(t.Text)
	case api.TokenFalse:
		r.add(t, 1)
		return api.Datum{Kind: api.DatumFalse}
	case api.TokenTrue:
		r.add(t, 1)
		return api.Datum{Kind: api.DatumTrue}
	default:
		panic(fault{api.ErrReadForm, t.At})
	}
}

// list is one whose bracket was taken.
func (r *reader) list() api.Datum {
	var kids []api.Datum
	for {
		switch r.kind() {
		case api.TokenClose:
			r.take()
			return list(kids)
		case api.TokenDot:
			return r.dotted(kids)
		default:
			kids = append(kids, r.datum())
		}
	}
}

// dotted is the list of these kids, and of what stands behind the dot that comes next.
func (r *reader) dotted(kids []api.Datum) api.Datum {
	if t := r.take(); len(kids) == 0 {
		panic(fault{api.ErrReadForm, t.At})
	}
	tail := r.datum()
	if t := r.take(); t.Kind != api.TokenClose {
		panic(fault{api.ErrReadForm, t.At})
	}
	if tail.Kind != api.DatumList {
		return api.Datum{Kind: api.DatumList, Kids: append(kids, tail), Dot: true}
	}
	return api.Datum{Kind: api.DatumList, Kids: append(kids, tail.Kids...), Dot: tail.Dot}
}

// quoted is the list of quote and what stands behind a quote that was taken.
func (r *reader) quoted() api.Datum {
	return list([]api.Datum{symbol(quote), r.datum()})
}

// enter opens a bracket or a quote, which counts so many data.
func (r *reader) enter(t api.Token, count int) {
	if r.open == api.MaxDepth {
		panic(fault{api.ErrReadDeep, t.At})
	}
	r.add(t, count)
	r.open++
}

func (r *reader) leave() { r.open-- }

// kind is that of the token that comes next.
func (r *reader) kind() api.TokenKind { return r.tokens[r.next].Kind }

// take goes on behind the token that comes next.
func (r *reader) take() api.Token {
	t := r.tokens[r.next]
	r.next++
	return t
}

// add counts what begins with a token.
func (r *reader) add(t api.Token, count int) {
	r.count += count
	if r.count > api.MaxData {
		panic(fault{api.ErrReadMuch, t.At})
	}
}
