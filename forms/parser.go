package forms

import (
	"slices"

	"dapple/api"
)

// parser makes a form of a datum that can be written. Its places lead from that datum to the one that it is at.
type parser struct {
	rows   map[string]func(*parser, api.Datum) api.Form
	places []int
}

// rows are what is done with a keyword's list, which has as many Kids as it must: what its form has beside its Kind.
func rows() map[string]func(*parser, api.Datum) api.Form {
	return map[string]func(*parser, api.Datum) api.Form{
		"quote":  (*parser).quoted,
		"if":     (*parser).plain,
		"lambda": (*parser).lambda,
		"define": (*parser).named,
		"set!":   (*parser).named,
		"begin":  (*parser).plain,
		"let":    (*parser).let,
		"while":  (*parser).plain,
		"spawn":  (*parser).plain,
		"join":   (*parser).plain,
		"lock":   (*parser).plain,
		"unlock": (*parser).plain,
		"yield":  (*parser).plain,
	}
}

// form is what a datum is that stands where a form is asked for.
func (p *parser) form(d api.Datum) api.Form {
	switch d.Kind {
	case api.DatumList:
		return p.list(d)
	case api.DatumSymbol:
		if !isName(d.Text) {
			p.giveUp(api.ErrFormsName)
		}
		return api.Form{Kind: api.FormName, Text: d.Text}
	default:
		return api.Form{Kind: api.FormQuote, Datum: copyOf(d)}
	}
}

// list is what a list is by its first Kid.
func (p *parser) list(d api.Datum) api.Form {
	if d.Dot || len(d.Kids) == 0 {
		p.giveUp(api.ErrFormsForm)
	}
	// Only a symbol has a Text.
	word := d.Kids[0].Text
	kind, ok := keyword(word)
	if !ok {
		return p.call(d)
	}
	s := shapes[kind]
	if !s.takes(len(d.Kids)-1-s.ahead) || kind == api.FormDefine && p.isWithin() {
		p.giveUp(api.ErrFormsForm)
	}
	f := p.rows[word](p, d)
	f.Kind = kind
	return f
}

func (p *parser) call(d api.Datum) api.Form {
	if !takesArguments(d.Kids[0].Text, len(d.Kids)-1) {
		p.giveUp(api.ErrFormsForm)
	}
	return api.Form{Kind: api.FormCall, Kids: p.formsFrom(d, 0)}
}

func (p *parser) quoted(d api.Datum) api.Form { return api.Form{Datum: copyOf(d.Kids[1])} }

// plain is what has nothing but forms behind its keyword.
func (p *parser) plain(d api.Datum) api.Form { return api.Form{Kids: p.formsFrom(d, 1)} }

// named is what has a name behind its keyword.
func (p *parser) named(d api.Datum) api.Form {
	p.enter(1)
	name := p.variable(d.Kids[1])
	p.leave()
	return api.Form{Text: name, Kids: p.formsFrom(d, 2)}
}

func (p *parser) lambda(d api.Datum) api.Form {
	p.enter(1)
	names := p.names(d.Kids[1])
	p.leave()
	return api.Form{Names: names, Kids: p.formsFrom(d, 2)}
}

func (p *parser) let(d api.Datum) api.Form {
	p.enter(1)
	names, values := p.bindings(d.Kids[1])
	p.leave()
	return api.Form{Names: names, Kids: append(values, p.formsFrom(d, 2)...)}
}

// names are those of a lambda's list.
func (p *parser) names(d api.Datum) []string {
	p.mustBeList(d)
	var names []string
	ahead := nameSet{}
	for i, kid := range d.Kids {
		p.enter(i)
		names = append(names, p.newVariable(kid, ahead))
		p.leave()
	}
	return names
}

// bindings are the names of a let's list, and the values that stand beside them.
func (p *parser) bindings(d api.Datum) ([]string, []api.Form) {
	p.mustBeList(d)
	var names []string
	var values []api.Form
	ahead := nameSet{}
	for i, kid := range d.Kids {
		p.enter(i)
		name, value := p.binding(kid, ahead)
		p.leave()
		names, values = append(names, name), append(values, value)
	}
	return names, values
}

func (p *parser) binding(d api.Datum, ahead nameSet) (string, api.Form) {
	p.mustBeList(d)
	if len(d.Kids) != 2 {
		p.giveUp(api.ErrFormsForm)
	}
	p.enter(0)
	name := p.newVariable(d.Kids[0], ahead)
	p.leave()
	p.enter(1)
	value := p.form(d.Kids[1])
	p.leave()
	return name, value
}

func (p *parser) mustBeList(d api.Datum) {
	if d.Kind != api.DatumList || d.Dot {
		p.giveUp(api.ErrFormsForm)
	}
}

// variable is the name that a datum is.
func (p *parser) variable(d api.Datum) string {
	if d.Kind != api.DatumSymbol || !isVariable(d.Text) {
		p.giveUp(api.ErrFormsName)
	}
	return d.Text
}

// newVariable is a name that does not stand ahead.
func (p *parser) newVariable(d api.Datum, ahead nameSet) string {
	name := p.variable(d)
	if !ahead.add(name) {
		p.giveUp(api.ErrFormsTwice)
	}
	return name
}

// formsFrom are the forms that a list's Kids are, from one of them on.
func (p *parser) formsFrom(d api.Datum, first int) []api.Form {
	var l []api.Form
	for i := first; i < len(d.Kids); i++ {
		p.enter(i)
		l = append(l, p.form(d.Kids[i]))
		p.leave()
	}
	return l
}

// enter goes on to a Kid of the list that the parser is at.
func (p *parser) enter(place int) { p.places = append(p.places, place) }

// leave goes back to that list.
func (p *parser) leave() { p.places = p.places[:len(p.places)-1] }

// isWithin tells whether the datum that the parser is at stands within another form.
func (p *parser) isWithin() bool { return len(p.places) > 0 }

// giveUp ends all of it at the datum that the parser is at.
func (p *parser) giveUp(e api.Errno) { panic(fault{e, slices.Clone(p.places)}) }
