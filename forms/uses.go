package forms

import "dapple/api"

// uses gathers the names that forms use where nothing around them binds these.
type uses struct {
	bound map[string]int // how many of the forms around bind a name
	known nameSet
	names []string
}

// addForm takes in a form and its Kids.
func (u *uses) addForm(f api.Form) {
	if hasText(f.Kind) {
		u.addName(f.Text)
	}
	outside := valueCount(f)
	u.addForms(f.Kids[:outside])
	u.bind(f.Names, 1)
	u.addForms(f.Kids[outside:])
	u.bind(f.Names, -1)
}

func (u *uses) addForms(l []api.Form) {
	for _, f := range l {
		u.addForm(f)
	}
}

func (u *uses) addName(name string) {
	_, _, isPrim := Prim(name)
	if !isPrim && u.bound[name] == 0 && u.known.add(name) {
		u.names = append(u.names, name)
	}
}

// bind begins (by 1) or ends (by -1) where names are bound.
func (u *uses) bind(names []string, by int) {
	for _, name := range names {
		u.bound[name] += by
	}
}
