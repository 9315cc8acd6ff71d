package forms

import "dapple/api"

// written is the datum that a form is written as, of which each term is as it must be.
func written(f api.Form) api.Datum {
	switch {
	case f.Kind == api.FormName:
		return symbol(f.Text)
	case f.Kind == api.FormQuote && isItself(f.Datum):
		return copyOf(f.Datum)
	}
	var kids []api.Datum
	if word := shapes[f.Kind].word; word != "" {
		kids = append(kids, symbol(word))
	}
	kids = append(kids, writtenAhead(f)...)
	for _, kid := range f.Kids[valueCount(f):] {
		kids = append(kids, written(kid))
	}
	return list(kids)
}

// isItself tells whether a datum is a form without a quote.
func isItself(d api.Datum) bool {
	return d.Kind == api.DatumInt || d.Kind == api.DatumFalse || d.Kind == api.DatumTrue
}

// writtenAhead is what stands between a form's keyword and its forms.
func writtenAhead(f api.Form) []api.Datum {
	switch f.Kind {
	case api.FormQuote:
		return []api.Datum{copyOf(f.Datum)}
	case api.FormDefine, api.FormSet:
		return []api.Datum{symbol(f.Text)}
	case api.FormLambda:
		return []api.Datum{writtenNames(f.Names)}
	case api.FormLet:
		return []api.Datum{writtenBindings(f)}
	default:
		return nil
	}
}

func writtenNames(names []string) api.Datum {
	var kids []api.Datum
	for _, name := range names {
		kids = append(kids, symbol(name))
	}
	return list(kids)
}

func writtenBindings(f api.Form) api.Datum {
	var kids []api.Datum
	for i, name := range f.Names {
		kids = append(kids, list([]api.Datum{symbol(name), written(f.Kids[i])}))
	}
	return list(kids)
}

func symbol(text string) api.Datum { return api.Datum{Kind: api.DatumSymbol, Text: text} }

func list(kids []api.Datum) api.Datum { return api.Datum{Kind: api.DatumList, Kids: kids} }

// copyOf is a datum in memory of its own.
func copyOf(d api.Datum) api.Datum {
	var kids []api.Datum
	for _, kid := range d.Kids {
		kids = append(kids, copyOf(kid))
	}
	d.Kids = kids
	return d
}
