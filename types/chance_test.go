package types

import (
	"math/rand"
	"strconv"
	"strings"
	"testing"

	"selvage/api"
	"selvage/show"
)

// All small expressions, and programs by chance, against what the chapter's words say of them.

// small: all expressions of so many parts, out of a few kinds, with the names a and b.
func small(parts int, have [][]api.Expr) []api.Expr {
	var out []api.Expr
	if parts == 1 {
		return []api.Expr{{Kind: api.Num, N: 1}, {Kind: api.Bool, N: 1}, {Kind: api.Unit}, {Kind: api.Name, Text: "a"}, {Kind: api.Name, Text: "b"}, {Kind: api.None}}
	}
	of := func(heads []api.Expr, kids ...api.Expr) {
		for _, h := range heads {
			h.Kids = kids
			out = append(out, h)
		}
	}
	one := []api.Expr{{Kind: api.Fun, Text: "a"}, {Kind: api.Fun, Text: "b"}, {Kind: api.Tell}, {Kind: api.Some}}
	two := []api.Expr{{Kind: api.Let, Text: "a"}, {Kind: api.App}, {Kind: api.Seq}, {Kind: api.Pair}, {Kind: api.Op, Text: "+"}, {Kind: api.Less}, {Kind: api.Two, Text: "a", Other: "b"}}
	three := []api.Expr{{Kind: api.If}, {Kind: api.Opt, Text: "a", N: 3}}
	for _, k := range have[parts-1] {
		of(one, k)
	}
	for i := 1; i < parts-1; i++ {
		for _, k := range have[i] {
			for _, l := range have[parts-1-i] {
				of(two, k, l)
			}
		}
	}
	for i := 1; i < parts-2; i++ {
		for j := 1; i+j < parts-1; j++ {
			for _, k := range have[i] {
				for _, l := range have[j] {
					for _, m := range have[parts-1-i-j] {
						of(three, k, l, m)
					}
				}
			}
		}
	}
	return out
}

func smalls(most int) [][]api.Expr {
	have := [][]api.Expr{nil}
	for n := 1; n <= most; n++ {
		have = append(have, small(n, have))
	}
	return have
}

// TestAllSmall: each in a domain of its own, where its names hold nowhere, and where they may be anything.
func TestAllSmall(t *testing.T) {
	u := newUniverse()
	count := map[bool]int{}
	for parts, l := range smalls(5) {
		for i, e := range l {
			wantExpected(t, api.Program{Domains: []api.Expr{e}})
			p := api.Program{Domains: []api.Expr{{Kind: api.Let, Text: "c", At: 5, Kids: []api.Expr{{Kind: api.Fun, Text: "a", Kids: []api.Expr{{Kind: api.Fun, Text: "b", Kids: []api.Expr{e}}}}, {Kind: api.Unit}}}}}
			code := wantExpected(t, p)
			if parts == 5 && i%50 != 0 {
				continue
			}
			may := u.mayAny(e)
			count[may]++
			if may && code != api.OK {
				t.Fatalf("%s: %d, but types can be given to it", shown(p), code)
			}
		}
	}
	if count[true] < 1000 || count[false] < 1000 {
		t.Error(count)
	}
}

// mayAny: may the expression have a type, with any types of the names a and b that are in it?
func (u *universe) mayAny(e api.Expr) bool {
	for a := range u.kinds {
		for b := range u.kinds {
			if u.may(e, a, b) != 0 {
				return true
			}
			if !within(e, "b") {
				break
			}
		}
		if !within(e, "a") {
			break
		}
	}
	return false
}

// within: is the name of a value anywhere in an expression?
func within(e api.Expr, name string) bool {
	for _, k := range e.Kids {
		if within(k, name) {
			return true
		}
	}
	return e.Kind == api.Name && e.Text == name
}

// wantExpected: a program's answer is what the chapter's words say.
func wantExpected(t *testing.T, p api.Program) api.Errno {
	t.Helper()
	e, at := expected(p)
	if gotE, gotAt := Check(p); gotE != e || gotAt != at {
		t.Fatalf("%s: %d at %d, not %d at %d", shown(p), gotE, gotAt, e, at)
	}
	return e
}

func shown(p api.Program) string {
	s, _ := show.Show(p)
	return s
}

// maker makes programs by chance to which types can be given.
type maker struct {
	r    *rand.Rand
	left int // how many expressions more there may be, about
	at   int // the last place
}

// bound is a name of a value that holds, and its type.
type bound struct {
	name string
	t    *ty
}

func newMaker(seed int64) *maker { return &maker{r: rand.New(rand.NewSource(seed))} }

func (m *maker) program() api.Program {
	p := api.Program{Decls: []api.Decl{{Kind: api.Cell, Name: "x", At: -3}, {Kind: api.Atom, Name: "a", At: -2}, {Kind: api.Row, Name: "v", N: 2, At: -1}}}
	for range 1 + m.r.Intn(3) {
		p.Domains = append(p.Domains, m.expr(tUnit, nil, 3+m.r.Intn(20)))
	}
	return p
}

func (m *maker) name() string {
	return []string{"n", "m", "k", "x", "a", "f"}[m.r.Intn(6)]
}

// ty: a type by chance, of at most that depth.
func (m *maker) ty(depth int) *ty {
	n := m.r.Intn(6)
	if depth == 1 {
		n = m.r.Intn(3)
	}
	switch n {
	case 0:
		return tInt
	case 1:
		return tBool
	case 2:
		return tUnit
	case 3:
		return fun(m.ty(depth-1), m.ty(depth-1))
	case 4:
		return opt(m.ty(depth - 1))
	}
	return pairOf(m.ty(depth-1), m.ty(depth-1))
}

// of an expression's parts, a place and kids.
func (m *maker) of(e api.Expr, kids ...api.Expr) api.Expr {
	m.at += 1 + m.r.Intn(3)
	e.At, e.Kids = m.at, kids
	return e
}

// find: the innermost name of that type that holds, by chance an outer one; false: none holds.
func (m *maker) find(t *ty, held []bound) (string, bool) {
	hidden := map[string]bool{}
	var l []string
	for i := len(held) - 1; i >= 0; i-- {
		if b := held[i]; !hidden[b.name] {
			hidden[b.name] = true
			if b.t.is(t) {
				l = append(l, b.name)
			}
		}
	}
	if len(l) == 0 {
		return "", false
	}
	return l[m.r.Intn(len(l))], true
}

// expr of that type. Where there is no more room it is as short as may be.
func (m *maker) expr(t *ty, held []bound, depth int) api.Expr {
	m.left--
	if name, ok := m.find(t, held); ok && m.r.Intn(3) == 0 {
		return m.of(api.Expr{Kind: api.Name, Text: name})
	}
	if depth > 1 && m.left > 0 && m.r.Intn(3) > 0 {
		return m.around(t, held, depth-1)
	}
	return m.made(t, held, max(depth-1, 1))
}

// around: an expression that may have any type.
func (m *maker) around(t *ty, held []bound, depth int) api.Expr {
	kid := func(t *ty, more ...bound) api.Expr {
		return m.expr(t, append(held[:len(held):len(held)], more...), depth)
	}
	a, b, n, k := m.ty(2), m.ty(2), m.name(), m.name()
	switch m.r.Intn(6) {
	case 0:
		return m.of(api.Expr{Kind: api.Let, Text: n}, kid(a), kid(t, bound{n, a}))
	case 1:
		return m.of(api.Expr{Kind: api.If}, kid(tBool), kid(t), kid(t))
	case 2:
		return m.of(api.Expr{Kind: api.App}, kid(fun(a, t)), kid(a))
	case 3:
		return m.of(api.Expr{Kind: api.Seq}, kid(tUnit), kid(t))
	case 4:
		return m.of(api.Expr{Kind: api.Opt, Text: n, N: 3}, kid(opt(a)), kid(t), kid(t, bound{n, a}))
	}
	return m.of(api.Expr{Kind: api.Two, Text: n, Other: k}, kid(pairOf(a, b)), kid(t, bound{n, a}, bound{k, b}))
}

// made: an expression that has just types like that one.
func (m *maker) made(t *ty, held []bound, depth int) api.Expr {
	kid := func(t *ty, more ...bound) api.Expr {
		return m.expr(t, append(held[:len(held):len(held)], more...), depth)
	}
	which := m.r.Intn(8)
	if depth == 1 || m.left <= 0 {
		which = 0
	}
	switch t.kind {
	case "fun":
		n := m.name()
		return m.of(api.Expr{Kind: api.Fun, Text: n}, kid(t.b, bound{n, t.a}))
	case "opt":
		if which == 0 {
			return m.of(api.Expr{Kind: api.None})
		}
		return m.of(api.Expr{Kind: api.Some}, kid(t.a))
	case "pair":
		return m.of(api.Expr{Kind: api.Pair}, kid(t.a), kid(t.b))
	case "bool":
		switch which {
		case 0:
			return m.of(api.Expr{Kind: api.Bool, N: 1})
		case 1, 2, 3:
			return m.of(api.Expr{Kind: api.Cas, Text: "a"}, kid(tInt), kid(tInt))
		}
		return m.of(api.Expr{Kind: api.Less + which%2}, kid(tInt), kid(tInt))
	case "unit":
		switch which {
		case 0:
			return m.of(api.Expr{Kind: api.Unit})
		case 1, 2:
			return m.of(api.Expr{Kind: api.Store, Text: []string{"x", "a"}[which%2]}, kid(tInt))
		case 3, 4:
			return m.of(api.Expr{Kind: api.Put, Text: "v"}, kid(tInt), kid(tInt))
		}
		return m.of(api.Expr{Kind: api.Tell}, kid(tInt))
	}
	switch which {
	case 0:
		return m.of(api.Expr{Kind: api.Num, N: 5})
	case 1:
		return m.of(api.Expr{Kind: api.Load, Text: "x"})
	case 2:
		return m.of(api.Expr{Kind: api.Load, Text: "a"})
	case 3:
		return m.of(api.Expr{Kind: api.At, Text: "v"}, kid(tInt))
	case 4, 5:
		return m.of(api.Expr{Kind: api.Swap + which%2, Text: "a"}, kid(tInt))
	}
	return m.of(api.Expr{Kind: api.Op, Text: []string{"+", "-", "*", "/"}[m.r.Intn(4)]}, kid(tInt), kid(tInt))
}

// spoil one expression of a program, by chance; mostly it is formed as before.
func (m *maker) spoil(p *api.Program) {
	e := &p.Domains[m.r.Intn(len(p.Domains))]
	for len(e.Kids) > 0 && m.r.Intn(6) > 0 {
		e = &e.Kids[m.r.Intn(len(e.Kids))]
	}
	switch m.r.Intn(6) {
	case 0:
		e.Text = m.name()
	case 1, 2:
		*e = m.expr(m.ty(2), nil, 2)
	case 3:
		if l := options(e); len(l) > 0 {
			e = l[m.r.Intn(len(l))]
			e.N = 1 + m.r.Intn(2)
			if e.Kids[3-e.N] = (api.Expr{Kind: api.Unit}); e.N == 1 {
				e.Text = ""
			}
		}
	case 4:
		e.Text, e.Other = m.name(), ""
		e.Kind, e.Kids = api.Name, nil
		e.N = 0
	case 5:
		if len(e.Kids) == 2 {
			e.Kids[0], e.Kids[1] = e.Kids[1], e.Kids[0]
		}
	}
}

// options: all matches of options in an expression.
func options(e *api.Expr) []*api.Expr {
	var out []*api.Expr
	if e.Kind == api.Opt && e.N == 3 {
		out = append(out, e)
	}
	for i := range e.Kids {
		out = append(out, options(&e.Kids[i])...)
	}
	return out
}

// TestByChance: types can be given to what is made of types; what becomes of it when parts of it are spoilt is what the chapter's words say.
func TestByChance(t *testing.T) {
	m := newMaker(1)
	count := map[api.Errno]int{}
	longest := 0
	for i := range 6000 {
		m.left = i % 300
		p := m.program()
		wantOf(t, p, api.OK, 0, shown(p))
		longest = max(longest, len(shown(p)))
		for range 4 {
			m.left = 5
			m.spoil(&p)
			if !show.Formed(p) {
				count[api.ErrForm]++
				wantOf(t, p, api.ErrForm, 0, "not formed")
				break
			}
			count[wantExpected(t, p)]++
			wantAlone(t, p)
		}
	}
	for _, e := range []api.Errno{api.OK, api.ErrForm, api.ErrName, api.ErrMatch, api.ErrType} {
		if count[e] < 300 {
			t.Error(count)
		}
	}
	if longest < 2000 {
		t.Error(longest)
	}
}

// P7.2: what no domain does not matter to another.

// wantAlone: what is told of a program is the first of what is told of each of its domains alone.
func wantAlone(t *testing.T, p api.Program) {
	t.Helper()
	e, at := api.OK, 0
	for _, d := range p.Domains {
		alone, place := Check(api.Program{Decls: p.Decls, Domains: []api.Expr{d}})
		if alone != api.OK && (e == api.OK || rank(alone) < rank(e)) {
			e, at = alone, place
		}
	}
	if gotE, gotAt := Check(p); gotE != e || gotAt != at {
		t.Fatalf("%s: %d at %d, not %d at %d", shown(p), gotE, gotAt, e, at)
	}
}

// rank: which error is told ahead of another.
func rank(e api.Errno) int {
	return map[api.Errno]int{api.ErrForm: 1, api.ErrName: 2, api.ErrMatch: 3, api.ErrType: 4}[e]
}

func TestAloneAndBeside(t *testing.T) {
	texts := []string{
		"let n = 1 in print n", "let n = true in if n then () else ()", "let f = fun n -> n in print (f 1)", "let f = fun n -> n in if f true then () else ()", "let o = none in match o with none -> () | some n -> print n", "let o = none in match o with none -> () | some n -> if n then () else ()",
		"let f = fun n -> n in f f; ()", "n", "let n = 1 in n", "match none with none -> ()", "print (x + n)", "1",
	}
	for _, a := range texts {
		for _, b := range texts {
			for _, c := range texts {
				wantAlone(t, program(t, "domain "+a+" end domain "+b+" end domain "+c+" end"))
			}
			wantAlone(t, program(t, "cell x = 0 domain "+a+" end domain "+b+" end"))
		}
	}
}

// P7.2: a value's name may be another one.

// renamed: the same expression with other names of values, each of them what next makes of how many hold and of those that must not be taken for another one's.
func renamed(e api.Expr, to map[string]string, next func(held int, not map[string]bool) string) api.Expr {
	kids := e.Kids
	e.Kids = nil
	names := []*string{}
	switch e.Kind {
	case api.Name:
		if n, ok := to[e.Text]; ok {
			e.Text = n
		}
	case api.Let, api.Fun, api.Opt:
		names = append(names, &e.Text)
	case api.Two:
		names = append(names, &e.Other, &e.Text)
	}
	within := map[string]string{}
	for n, o := range to {
		within[n] = o
	}
	if at := binds(e); at >= 0 && e.Text != "" {
		// What is meant by names in the kid that are of another expression: those new names are not free.
		own := map[string]bool{e.Text: true, e.Other: true}
		not := map[string]bool{}
		for _, n := range outer(kids[at], own) {
			if o, ok := to[n]; ok {
				n = o
			}
			not[n] = true
		}
		done := map[string]bool{}
		for _, name := range names {
			old := *name
			*name = next(len(to), not)
			not[*name] = true
			if !done[old] {
				within[old] = *name
			}
			done[old] = true
		}
		for i, k := range kids {
			if i == at {
				e.Kids = append(e.Kids, renamed(k, within, next))
			} else {
				e.Kids = append(e.Kids, renamed(k, to, next))
			}
		}
		return e
	}
	for _, k := range kids {
		e.Kids = append(e.Kids, renamed(k, to, next))
	}
	return e
}

// outer: the names of values in an expression that are not its own, nor among those.
func outer(e api.Expr, own map[string]bool) []string {
	var out []string
	if e.Kind == api.Name && !own[e.Text] {
		out = append(out, e.Text)
	}
	for i, k := range e.Kids {
		in := own
		if i == binds(e) {
			in = map[string]bool{e.Text: true, e.Other: true}
			for n := range own {
				in[n] = true
			}
		}
		out = append(out, outer(k, in)...)
	}
	return out
}

// TestOtherNames: as long as names mean the same the answer is the same, with names that are all unlike, with as few as may be, and with those of declarations.
func TestOtherNames(t *testing.T) {
	m := newMaker(2)
	fresh := 0
	// The first of those that is free.
	few := func(names ...string) func(int, map[string]bool) string {
		return func(_ int, not map[string]bool) string {
			for _, n := range names {
				if !not[n] {
					return n
				}
			}
			for i := 0; ; i++ {
				if n := "z" + strconv.Itoa(i); !not[n] {
					return n
				}
			}
		}
	}
	ways := []func(int, map[string]bool) string{
		func(int, map[string]bool) string { fresh++; return "q" + strconv.Itoa(fresh) },
		func(held int, _ map[string]bool) string {
			fresh++
			return "long" + strconv.Itoa(held) + "name" + strconv.Itoa(fresh%1000)
		},
		few(), few("x", "a", "v"), few("f"), few("n", "m", "k", "f", "a", "x"),
	}
	count := map[api.Errno]int{}
	for i := range 3000 {
		m.left = i % 60
		p := m.program()
		if i%3 > 0 {
			m.left = 5
			m.spoil(&p)
		}
		if !show.Formed(p) {
			continue
		}
		e, at := Check(p)
		count[e]++
		for _, way := range ways {
			q := api.Program{Decls: p.Decls}
			for _, d := range p.Domains {
				q.Domains = append(q.Domains, renamed(d, nil, way))
			}
			if gotE, gotAt := Check(q); gotE != e || gotAt != at {
				t.Fatalf("%s: %d at %d, with other names %s: %d at %d", shown(p), e, at, shown(q), gotE, gotAt)
			}
		}
	}
	for _, e := range []api.Errno{api.OK, api.ErrName, api.ErrMatch, api.ErrType} {
		if count[e] < 20 {
			t.Error(count)
		}
	}
}

func TestOtherNamesByHand(t *testing.T) {
	for _, c := range []struct {
		text string
		e    api.Errno
	}{
		{"let A = 1 in let B = true in (print A; if B then () else ())", api.OK},
		{"let A = 1 in let B = A < 2 in if B then () else ()", api.OK},
		{"let A = fun B -> B in (print (A 1); if A true then () else ())", api.ErrType},
		{"let A = fun B -> B B in ()", api.ErrType},
		{"match (1, true) with (A, B) -> if B then print A else ()", api.OK},
		{"match (1, true) with (A, B) -> if A then print B else ()", api.ErrType},
		{"match some 1 with none -> print !x | some A -> (x := A; print v.[A])", api.OK},
		{"let A = fun B -> (x := B; swap a B) in v.[A 1] <- A 2", api.OK},
	} {
		for _, names := range [][2]string{{"n", "m"}, {"x", "a"}, {"a", "x"}, {"v", "x"}, {"x", "v"}, {"abcdefghijklmnop", "abcdefghijklmno"}, {"z9", "z"}} {
			text := "cell x = 1 atom a = 2 row v 3 domain " + strings.NewReplacer("A", names[0], "B", names[1]).Replace(c.text) + " end"
			at := 0
			if c.e != api.OK {
				at = len(someDecls) + 7
			}
			wantOf(t, program(t, text), c.e, at, text)
		}
	}
}
