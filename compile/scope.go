package compile

import "slices"

// scope is the names of a lambda or a let, and those around it; nil stands outside of all of them.
type scope struct {
	*scope
	names []string
}

// find is how many places up a name is bound; false, if it is not.
func (s *scope) find(name string) (int, bool) {
	if s == nil {
		return 0, false
	}
	if i := slices.Index(s.names, name); i >= 0 {
		return len(s.names) - 1 - i, true
	}
	up, ok := s.scope.find(name)
	return len(s.names) + up, ok
}
