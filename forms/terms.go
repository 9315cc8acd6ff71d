package forms

import (
	"slices"

	"dapple/api"
	"dapple/read"
)

// checkTerms is the error of the first term that is not as it must be.
func checkTerms(f api.Form, isWithin bool) api.Errno {
	if e := checkTerm(f, isWithin); e != api.OK {
		return e
	}
	for _, kid := range f.Kids {
		if e := checkTerms(kid, true); e != api.OK {
			return e
		}
	}
	return api.OK
}

// checkTerm is a term's error, but for what its Kids are by themselves.
func checkTerm(f api.Form, isWithin bool) api.Errno {
	switch {
	case !isShaped(f), isWithin && f.Kind == api.FormDefine:
		return api.ErrFormsForm
	case !isNamed(f):
		return api.ErrFormsName
	case hasTwice(f.Names):
		return api.ErrFormsTwice
	default:
		return api.OK
	}
}

// isShaped tells whether a term has what its kind has, as many as that takes, and nothing else.
func isShaped(f api.Form) bool {
	if f.Kind < api.FormQuote || f.Kind > api.FormYield {
		return false
	}
	return shapes[f.Kind].takes(len(f.Kids)-valueCount(f)) &&
		(f.Text == "" || hasText(f.Kind)) &&
		(len(f.Names) == 0 || hasNames(f.Kind)) &&
		isDatumFit(f) && isCallFit(f)
}

// valueCount is how many of a form's Kids are a let's values, which stand outside of where its names are bound.
func valueCount(f api.Form) int {
	if f.Kind == api.FormLet {
		return len(f.Names)
	}
	return 0
}

func hasText(kind api.FormKind) bool {
	return kind == api.FormName || kind == api.FormDefine || kind == api.FormSet
}

func hasNames(kind api.FormKind) bool { return kind == api.FormLambda || kind == api.FormLet }

func isDatumFit(f api.Form) bool {
	if f.Kind == api.FormQuote {
		return canBeWritten(f.Datum)
	}
	return read.Same(f.Datum, api.Datum{})
}

func isCallFit(f api.Form) bool {
	if f.Kind != api.FormCall || f.Kids[0].Kind != api.FormName {
		return true
	}
	return takesArguments(f.Kids[0].Text, len(f.Kids)-1)
}

// isNamed tells whether a term's names may stand there.
func isNamed(f api.Form) bool {
	switch f.Kind {
	case api.FormName:
		return isName(f.Text)
	case api.FormDefine, api.FormSet:
		return isVariable(f.Text)
	default:
		return !slices.ContainsFunc(f.Names, isNoVariable)
	}
}

func isNoVariable(name string) bool { return !isVariable(name) }

func hasTwice(names []string) bool {
	ahead := nameSet{}
	for _, name := range names {
		if !ahead.add(name) {
			return true
		}
	}
	return false
}
