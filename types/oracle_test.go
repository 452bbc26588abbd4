package types

import (
	"math/bits"

	"selvage/api"
)

// What the chapter's words say of a program, told in other ways than the program's own.

// faults of an expression, each with its place, ahead of its kids: names of values that don't hold, or of locations of another kind; matches that lack an arm.
type fault struct {
	e  api.Errno
	at int
}

func faults(e api.Expr, held map[string]bool, decls []api.Decl) []fault {
	var out []fault
	kinds := map[string]int{}
	for _, d := range decls {
		kinds[d.Name] = d.Kind
	}
	wanted := map[int][]int{api.Load: {api.Cell, api.Atom}, api.Store: {api.Cell, api.Atom}, api.At: {api.Row}, api.Put: {api.Row}, api.Swap: {api.Atom}, api.Inc: {api.Atom}, api.Cas: {api.Atom}}
	if l, ok := wanted[e.Kind]; ok {
		good := false
		for _, k := range l {
			good = good || kinds[e.Text] == k
		}
		if !good {
			out = append(out, fault{api.ErrName, e.At})
		}
	}
	if e.Kind == api.Name && !held[e.Text] {
		out = append(out, fault{api.ErrName, e.At})
	}
	if e.Kind == api.Opt && e.N < 3 {
		out = append(out, fault{api.ErrMatch, e.At})
	}
	for i, k := range e.Kids {
		within := map[string]bool{}
		for n := range held {
			within[n] = true
		}
		if b := binds(e); i == b {
			within[e.Text] = true
			if e.Kind == api.Two {
				within[e.Other] = true
			}
		}
		out = append(out, faults(k, within, decls)...)
	}
	return out
}

// binds: the kid in which an expression's name or names hold; -1: it has none.
func binds(e api.Expr) int {
	switch e.Kind {
	case api.Fun:
		return 0
	case api.Let, api.Two:
		return 1
	case api.Opt:
		return 2
	}
	return -1
}

// expected: what is told of a program that is formed.
func expected(p api.Program) (api.Errno, int) {
	names := map[string]bool{}
	for _, d := range p.Decls {
		if names[d.Name] {
			return api.ErrName, d.At
		}
		names[d.Name] = true
	}
	var all []fault
	for _, d := range p.Domains {
		all = append(all, faults(d, nil, p.Decls)...)
	}
	for _, e := range []api.Errno{api.ErrName, api.ErrMatch} {
		for _, f := range all {
			if f.e == e {
				return e, f.at
			}
		}
	}
	for _, d := range p.Domains {
		if !inferable(d) {
			return api.ErrType, d.At
		}
	}
	return api.OK, 0
}

// term is a type, or (without a kind) one that is not known yet.
type term struct {
	kind  string
	parts []*term
}

// inference finds an expression's type out of its kids', one that is not known standing for what it was found to be.
type inference struct {
	found map[*term]*term
	bad   bool
}

func inferable(domain api.Expr) bool {
	var f inference
	f.found = map[*term]*term{}
	f.equal(f.infer(domain, nil), &term{kind: "unit"})
	return !f.bad
}

func (f *inference) seen(t *term) *term {
	for f.found[t] != nil {
		t = f.found[t]
	}
	return t
}

// within: is the one that is not known a part of that type, or that itself?
func (f *inference) within(v, t *term) bool {
	t = f.seen(t)
	if t == v {
		return true
	}
	for _, p := range t.parts {
		if f.within(v, p) {
			return true
		}
	}
	return false
}

func (f *inference) equal(a, b *term) {
	a, b = f.seen(a), f.seen(b)
	switch {
	case a == b || f.bad:
	case a.kind == "":
		f.bad = f.within(a, b)
		f.found[a] = b
	case b.kind == "":
		f.equal(b, a)
	case a.kind != b.kind:
		f.bad = true
	default:
		for i := range a.parts {
			f.equal(a.parts[i], b.parts[i])
		}
	}
}

// infer an expression's type.
func (f *inference) infer(e api.Expr, held map[string]*term) *term {
	if f.bad {
		return &term{}
	}
	with := func(l ...any) map[string]*term {
		out := map[string]*term{}
		for n, t := range held {
			out[n] = t
		}
		for i := 0; i < len(l); i += 2 {
			out[l[i].(string)] = l[i+1].(*term)
		}
		return out
	}
	kid := func(i int, l ...any) *term { return f.infer(e.Kids[i], with(l...)) }
	number, truth, unit := &term{kind: "int"}, &term{kind: "bool"}, &term{kind: "unit"}
	numbers := func(own *term) *term {
		for i := range e.Kids {
			f.equal(kid(i), number)
		}
		return own
	}
	switch e.Kind {
	case api.Num, api.Load, api.At, api.Swap, api.Inc, api.Op:
		return numbers(number)
	case api.Bool, api.Cas, api.Less, api.Same:
		return numbers(truth)
	case api.Unit, api.Store, api.Put, api.Tell:
		return numbers(unit)
	case api.Name:
		return held[e.Text]
	case api.Let:
		return kid(1, e.Text, kid(0))
	case api.If:
		f.equal(kid(0), truth)
		own := kid(1)
		f.equal(own, kid(2))
		return own
	case api.Fun:
		from := &term{}
		return &term{"fun", []*term{from, kid(0, e.Text, from)}}
	case api.App:
		function, from, own := kid(0), kid(1), &term{}
		f.equal(function, &term{"fun", []*term{from, own}})
		return own
	case api.Seq:
		f.equal(kid(0), unit)
		return kid(1)
	case api.None:
		return &term{"opt", []*term{{}}}
	case api.Some:
		return &term{"opt", []*term{kid(0)}}
	case api.Pair:
		return &term{"pair", []*term{kid(0), kid(1)}}
	case api.Opt:
		in := &term{}
		f.equal(kid(0), &term{"opt", []*term{in}})
		own := kid(2, e.Text, in)
		f.equal(kid(1), own)
		return own
	}
	l, r := &term{}, &term{}
	f.equal(kid(0), &term{"pair", []*term{l, r}})
	return kid(1, e.Text, l, e.Other, r)
}

// universe is a list of types, all of at most 3 parts, and as sets of their places what is made of which: the types that an expression may have are found by trying all.
type universe struct {
	kinds     []string
	parts     [][2]int
	opt       [32]uint32
	fun, pair [32][32]uint32
}

func newUniverse() *universe {
	u := &universe{}
	add := func(kind string, a, b int) uint32 {
		u.kinds = append(u.kinds, kind)
		u.parts = append(u.parts, [2]int{a, b})
		return 1 << (len(u.kinds) - 1)
	}
	for _, k := range []string{"int", "bool", "unit"} {
		add(k, 0, 0)
	}
	for a := range 6 {
		u.opt[a] = add("opt", a, 0)
	}
	for a := range 3 {
		for b := range 3 {
			u.fun[a][b] = add("fun", a, b)
			u.pair[a][b] = add("pair", a, b)
		}
	}
	return u
}

// The sets of one type without parts.
const (
	intSet  = 1
	boolSet = 2
	unitSet = 4
)

// each does something with the places of a set's types that are of that kind (of any, where it is empty).
func (u *universe) each(set uint32, kind string, do func(t int)) {
	for ; set != 0; set &= set - 1 {
		if t := bits.TrailingZeros32(set); kind == "" || u.kinds[t] == kind {
			do(t)
		}
	}
}

// may: the set of the types that an expression may have, where the names a and b have these.
func (u *universe) may(e api.Expr, a, b int) uint32 {
	kid := func(i int) uint32 { return u.may(e.Kids[i], a, b) }
	within := func(i int, t int) uint32 {
		if e.Text == "a" {
			return u.may(e.Kids[i], t, b)
		}
		return u.may(e.Kids[i], a, t)
	}
	out := uint32(0)
	switch e.Kind {
	case api.Num:
		return intSet
	case api.Bool:
		return boolSet
	case api.Unit:
		return unitSet
	case api.Name:
		if e.Text == "a" {
			return 1 << a
		}
		return 1 << b
	case api.Tell:
		if kid(0)&intSet != 0 {
			return unitSet
		}
	case api.Op:
		return kid(0) & kid(1) & intSet
	case api.Less:
		return kid(0) & kid(1) & intSet << 1
	case api.Let:
		u.each(kid(0), "", func(t int) { out |= within(1, t) })
	case api.If:
		if kid(0)&boolSet != 0 {
			return kid(1) & kid(2)
		}
	case api.Fun:
		for from := range u.kinds {
			u.each(within(0, from), "", func(to int) { out |= u.fun[from][to] })
		}
	case api.App:
		from := kid(1)
		u.each(kid(0), "fun", func(t int) { out |= from >> u.parts[t][0] & 1 << u.parts[t][1] })
	case api.Seq:
		if kid(0)&unitSet != 0 {
			return kid(1)
		}
	case api.None:
		for _, set := range u.opt {
			out |= set
		}
	case api.Some:
		u.each(kid(0), "", func(t int) { out |= u.opt[t] })
	case api.Pair:
		r := kid(1)
		u.each(kid(0), "", func(t int) { u.each(r, "", func(v int) { out |= u.pair[t][v] }) })
	case api.Opt:
		u.each(kid(0), "opt", func(t int) { out |= within(2, u.parts[t][0]) })
		return out & kid(1)
	case api.Two:
		u.each(kid(0), "pair", func(t int) { out |= u.may(e.Kids[1], u.parts[t][0], u.parts[t][1]) })
	}
	return out
}
