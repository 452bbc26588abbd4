package types

import "selvage/api"

// scope is a name of a value that holds, with its type where types are asked for, and the scope around it.
type scope struct {
	name   string
	of     typ
	around *scope
}

// find: the innermost scope of that name; nil: no such name holds.
func (s *scope) find(name string) *scope {
	for s != nil && s.name != name {
		s = s.around
	}
	return s
}

// named: the names of values that hold in one of an expression's kids and not around it, the innermost one last.
func named(e api.Expr, kid int) []string {
	switch {
	case e.Kind == api.Let && kid == 1, e.Kind == api.Fun, e.Kind == api.Opt && kid == 2:
		return []string{e.Text}
	case e.Kind == api.Two && kid == 1:
		return []string{e.Text, e.Other}
	}
	return nil
}
