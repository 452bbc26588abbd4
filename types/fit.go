package types

import "selvage/api"

// asker says what is asked of one of an expression's kids: to have that type, where the names that the kid alone is given have these.
type asker func(kid int, t typ, names ...typ)

// typed: can types be given to all of a domain's parts, it being unit?
func typed(domain api.Expr) bool {
	s := begin()
	s.fit(domain, unitType, nil)
	return !s.clash && s.finite()
}

// fit: the expression has that type.
func (s *solver) fit(e api.Expr, t typ, held *scope) {
	ask := func(kid int, t typ, names ...typ) {
		in := held
		for i, name := range named(e, kid) {
			in = &scope{name, names[i], in}
		}
		s.fit(e.Kids[kid], t, in)
	}
	switch e.Kind {
	case api.Name:
		s.same(t, held.find(e.Text).of)
	case api.Let, api.Fun, api.App:
		s.fitNamed(e.Kind, t, ask)
	case api.None, api.Some, api.Pair, api.Opt, api.Two:
		s.fitMade(e.Kind, t, ask)
	case api.If:
		ask(0, boolType)
		ask(1, t)
		ask(2, t)
	case api.Seq:
		ask(0, unitType)
		ask(1, t)
	default:
		s.same(t, plain(e.Kind))
		for kid := range e.Kids {
			ask(kid, intType)
		}
	}
}

// plain: the type of an expression that asks each of its kids to be int, if it has any.
func plain(kind int) typ {
	switch kind {
	case api.Bool, api.Cas, api.Less, api.Same:
		return boolType
	case api.Unit, api.Store, api.Put, api.Tell:
		return unitType
	}
	return intType
}

// fitNamed: values that are named, and functions.
func (s *solver) fitNamed(kind int, t typ, ask asker) {
	value := s.any()
	switch kind {
	case api.Let:
		ask(0, value)
		ask(1, t, value)
	case api.Fun:
		to := s.any()
		s.same(t, s.made(function, value, to))
		ask(0, to, value)
	case api.App:
		ask(0, s.made(function, value, t))
		ask(1, value)
	}
}

// fitMade: options and pairs, and their matches.
func (s *solver) fitMade(kind int, t typ, ask asker) {
	one := s.any()
	switch kind {
	case api.None:
		s.same(t, s.made(option, one))
	case api.Some:
		s.same(t, s.made(option, one))
		ask(0, one)
	case api.Pair:
		other := s.any()
		s.same(t, s.made(pair, one, other))
		ask(0, one)
		ask(1, other)
	case api.Opt:
		ask(0, s.made(option, one))
		ask(1, t)
		ask(2, t, one)
	case api.Two:
		other := s.any()
		ask(0, s.made(pair, one, other))
		ask(1, t, one, other)
	}
}
