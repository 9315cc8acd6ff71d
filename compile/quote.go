package compile

import "dapple/api"

// datum writes what lays a quoted datum on the stack.
func (p *procedure) datum(d api.Datum) {
	switch d.Kind {
	case api.DatumInt:
		p.constant(api.TagInt, d.N)
	case api.DatumSymbol:
		p.constant(api.TagSymbol, int64(p.symbol(d.Text)))
	case api.DatumFalse:
		p.constant(api.TagFalse, 0)
	case api.DatumTrue:
		p.constant(api.TagTrue, 0)
	case api.DatumList:
		p.list(d)
	}
}

// list writes all of a list's elements ahead of the first cons, so that it is laid from its end on, each time anew.
func (p *procedure) list(d api.Datum) {
	for _, kid := range d.Kids {
		p.datum(kid)
	}
	conses := len(d.Kids)
	if d.Dot {
		conses--
	} else {
		p.constant(api.TagNil, 0)
	}
	for range conses {
		p.put(api.OpPrim, int(api.PrimCons))
	}
}
