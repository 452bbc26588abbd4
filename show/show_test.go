package show

import (
	"reflect"
	"strconv"
	"strings"
	"testing"
	"unsafe"

	"selvage/api"
)

var (
	unit = api.Expr{Kind: api.Unit}
	none = api.Expr{Kind: api.None}
	yes  = api.Expr{Kind: api.Bool, N: 1}
	no   = api.Expr{Kind: api.Bool}
)

func num(n int) api.Expr             { return api.Expr{Kind: api.Num, N: n} }
func named(s string) api.Expr        { return api.Expr{Kind: api.Name, Text: s} }
func load(s string) api.Expr         { return api.Expr{Kind: api.Load, Text: s} }
func alone(e api.Expr) api.Program   { return api.Program{Domains: []api.Expr{e}} }
func decls(l ...api.Decl) []api.Decl { return l }

func node(kind int, kids ...api.Expr) api.Expr { return api.Expr{Kind: kind, Kids: kids} }

func of(kind int, text string, kids ...api.Expr) api.Expr {
	return api.Expr{Kind: kind, Text: text, Kids: kids}
}

func opt(n int, text string, kids ...api.Expr) api.Expr {
	return api.Expr{Kind: api.Opt, Text: text, N: n, Kids: kids}
}

func two(one, other string, kids ...api.Expr) api.Expr {
	return api.Expr{Kind: api.Two, Text: one, Other: other, Kids: kids}
}

func short(s string) string {
	if len(s) > 300 {
		return strconv.Quote(s[:300]) + ".. of " + strconv.Itoa(len(s)) + " bytes"
	}
	return strconv.Quote(s)
}

// wantShown: the program is formed, and this is its text.
func wantShown(t *testing.T, p api.Program, want string) {
	t.Helper()
	if !Formed(p) {
		t.Errorf("%s is not formed", short(want))
	}
	if s, e := Show(p); e != api.OK || s != want {
		t.Errorf("%s, %d, not %s", short(s), e, short(want))
	}
}

// wantDomain: this is the text of an expression.
func wantDomain(t *testing.T, e api.Expr, want string) {
	t.Helper()
	wantShown(t, alone(e), "domain "+want+" end\n")
}

// wantNone: it is none, by both calls.
func wantNone(t *testing.T, p api.Program, why string) {
	t.Helper()
	if Formed(p) {
		t.Errorf("formed: %s", why)
	}
	if s, e := Show(p); e != api.ErrForm || s != "" {
		t.Errorf("%s: %s, %d", why, short(s), e)
	}
}

// P6.1: texts.

func TestDeclarations(t *testing.T) {
	for text, d := range map[string]api.Decl{
		"cell x = 5":                 {Kind: api.Cell, Name: "x", N: 5},
		"cell x = 0":                 {Kind: api.Cell, Name: "x"},
		"cell x = - 5":               {Kind: api.Cell, Name: "x", N: -5},
		"cell x = 999999999":         {Kind: api.Cell, Name: "x", N: 999999999},
		"cell x = - 999999999":       {Kind: api.Cell, Name: "x", N: -999999999},
		"atom a = 0":                 {Kind: api.Atom, Name: "a"},
		"atom a = 1":                 {Kind: api.Atom, Name: "a", N: 1},
		"atom a = - 1":               {Kind: api.Atom, Name: "a", N: -1},
		"atom a = - 2":               {Kind: api.Atom, Name: "a", N: -2},
		"atom a = 999999999":         {Kind: api.Atom, Name: "a", N: 999999999},
		"atom a = - 999999999":       {Kind: api.Atom, Name: "a", N: -999999999},
		"row v 1":                    {Kind: api.Row, Name: "v", N: 1},
		"row v 4":                    {Kind: api.Row, Name: "v", N: 4},
		"row v 8":                    {Kind: api.Row, Name: "v", N: 8},
		"cell abcdefghijklmnop = 10": {Kind: api.Cell, Name: "abcdefghijklmnop", N: 10},
		"atom lets = - 10":           {Kind: api.Atom, Name: "lets", N: -10},
		"row a1b2 2":                 {Kind: api.Row, Name: "a1b2", N: 2},
	} {
		wantShown(t, api.Program{Decls: decls(d), Domains: []api.Expr{unit}}, text+"\ndomain () end\n")
	}
}

// Each declaration and each domain has a line of its own, in their order; one name may be there twice.
func TestLines(t *testing.T) {
	p := api.Program{
		Decls: decls(
			api.Decl{Kind: api.Row, Name: "v", N: 4, At: 7}, api.Decl{Kind: api.Cell, Name: "x", N: 5}, api.Decl{Kind: api.Atom, Name: "a", N: -2, At: -1},
			api.Decl{Kind: api.Cell, Name: "x", N: -5}, api.Decl{Kind: api.Row, Name: "v", N: 1}),
		Domains: []api.Expr{of(api.Store, "x", num(1)), unit, node(api.Tell, load("x"))},
	}
	wantShown(t, p, "row v 4\ncell x = 5\natom a = - 2\ncell x = - 5\nrow v 1\ndomain (x := 1) end\ndomain () end\ndomain (print !x) end\n")
	p.Domains = p.Domains[1:]
	wantShown(t, p, "row v 4\ncell x = 5\natom a = - 2\ncell x = - 5\nrow v 1\ndomain () end\ndomain (print !x) end\n")
	p.Decls = nil
	wantShown(t, p, "domain () end\ndomain (print !x) end\n")
	p.Decls = []api.Decl{}
	wantShown(t, p, "domain () end\ndomain (print !x) end\n")
}

func TestEachExpression(t *testing.T) {
	for _, c := range []struct {
		text string
		e    api.Expr
	}{
		{"5", num(5)},
		{"0", num(0)},
		{"10", num(10)},
		{"999999999", num(999999999)},
		{"true", yes},
		{"false", no},
		{"()", unit},
		{"x", named("x")},
		{"abcdefghijklmnop", named("abcdefghijklmnop")},
		{"!x", load("x")},
		{"x.[1]", of(api.At, "x", num(1))},
		{"none", none},
		{"(let x = 1 in 2)", of(api.Let, "x", num(1), num(2))},
		{"(if 1 then 2 else 3)", node(api.If, num(1), num(2), num(3))},
		{"(fun x -> 1)", of(api.Fun, "x", num(1))},
		{"(1 2)", node(api.App, num(1), num(2))},
		{"(1; 2)", node(api.Seq, num(1), num(2))},
		{"(x := 1)", of(api.Store, "x", num(1))},
		{"(x.[1] <- 2)", of(api.Put, "x", num(1), num(2))},
		{"(swap x 1)", of(api.Swap, "x", num(1))},
		{"(add x 1)", of(api.Inc, "x", num(1))},
		{"(cas x 1 2)", of(api.Cas, "x", num(1), num(2))},
		{"(print 1)", node(api.Tell, num(1))},
		{"(some 1)", node(api.Some, num(1))},
		{"(1, 2)", node(api.Pair, num(1), num(2))},
		{"(1 + 2)", of(api.Op, "+", num(1), num(2))},
		{"(1 - 2)", of(api.Op, "-", num(1), num(2))},
		{"(1 * 2)", of(api.Op, "*", num(1), num(2))},
		{"(1 / 2)", of(api.Op, "/", num(1), num(2))},
		{"(1 < 2)", node(api.Less, num(1), num(2))},
		{"(1 = 2)", node(api.Same, num(1), num(2))},
		{"(match 1 with none -> 2 | some x -> 3)", opt(3, "x", num(1), num(2), num(3))},
		{"(match 1 with none -> 2)", opt(1, "", num(1), num(2), unit)},
		{"(match 1 with some x -> 3)", opt(2, "x", num(1), unit, num(3))},
		{"(match 1 with none -> () | some x -> ())", opt(3, "x", num(1), unit, unit)},
		{"(match 1 with none -> ())", opt(1, "", num(1), unit, unit)},
		{"(match 1 with some x -> ())", opt(2, "x", num(1), unit, unit)},
		{"(match 1 with (x, y) -> 2)", two("x", "y", num(1), num(2))},
		{"(match 1 with (x, x) -> 2)", two("x", "x", num(1), num(2))},
	} {
		wantDomain(t, c.e, c.text)
	}
}

func TestInOneAnother(t *testing.T) {
	wantDomain(t, node(api.Seq, of(api.Store, "x", num(1)), load("x")), "((x := 1); !x)")
	wantDomain(t, node(api.App, node(api.App, named("f"), named("x")), node(api.App, named("g"), unit)), "((f x) (g ()))")
	wantDomain(t, of(api.Op, "-", of(api.Op, "-", num(1), num(2)), of(api.Op, "*", num(3), num(4))), "((1 - 2) - (3 * 4))")
	wantDomain(t, node(api.Seq, num(1), node(api.Seq, num(2), num(3))), "(1; (2; 3))")
	wantDomain(t, of(api.At, "v", of(api.At, "w", of(api.Op, "+", load("x"), num(1)))), "v.[w.[(!x + 1)]]")
	wantDomain(t, of(api.Put, "v", of(api.Put, "w", num(0), num(1)), of(api.Put, "u", num(2), num(3))), "(v.[(w.[0] <- 1)] <- (u.[2] <- 3))")
	wantDomain(t, opt(3, "b", opt(1, "", none, yes, unit), opt(2, "a", none, unit, no), two("c", "d", none, none)),
		"(match (match none with none -> true) with none -> (match none with some a -> false) | some b -> (match none with (c, d) -> none))")
	wantDomain(t, node(api.Pair, node(api.Some, none), node(api.Tell, node(api.Pair, unit, yes))), "((some none), (print ((), true)))")
	wantDomain(t, of(api.Fun, "x", of(api.Let, "y", of(api.Swap, "a", named("x")), node(api.If, node(api.Less, named("y"), num(2)), of(api.Inc, "a", num(1)), of(api.Cas, "a", num(0), named("y"))))),
		"(fun x -> (let y = (swap a x) in (if (y < 2) then (add a 1) else (cas a 0 y))))")
}

// Each kind in each place of each other, and that of each other again, is what the words say of them one by one.
func TestEachInEachOther(t *testing.T) {
	for _, inner := range samples() {
		for _, middle := range holding(inner) {
			wantDomain(t, middle, said(middle))
			for _, outer := range holding(middle) {
				wantDomain(t, outer, said(outer))
			}
		}
	}
}

// samples: formed expressions of each kind, and of each of its ways.
func samples() []api.Expr {
	return []api.Expr{
		num(0), num(7), num(999999999), yes, no, unit, named("x"), named("endx"), load("y"), none,
		of(api.Let, "x", num(1), named("x")), node(api.If, yes, num(1), num(2)), of(api.Fun, "x", unit), node(api.App, named("f"), num(1)), node(api.Seq, unit, num(1)),
		of(api.Store, "x", num(1)), of(api.At, "v", num(1)), of(api.Put, "v", num(1), num(2)), of(api.Swap, "a", num(1)), of(api.Inc, "a", num(1)), of(api.Cas, "a", num(1), num(2)),
		node(api.Tell, num(1)), node(api.Some, unit), node(api.Pair, num(1), yes),
		of(api.Op, "+", num(1), num(2)), of(api.Op, "-", num(1), num(2)), of(api.Op, "*", num(1), num(2)), of(api.Op, "/", num(1), num(2)),
		node(api.Less, num(1), num(2)), node(api.Same, num(1), num(2)),
		opt(1, "", none, num(1), unit), opt(2, "x", none, unit, num(2)), opt(3, "x", none, num(1), num(2)), two("x", "y", named("p"), num(1)),
	}
}

// missing: is an expression's kid in the place of an arm that is not there?
func missing(e api.Expr, kid int) bool { return e.Kind == api.Opt && kid > 0 && e.N&kid == 0 }

// holding: the samples, with the expression in each place where one may be.
func holding(e api.Expr) []api.Expr {
	var out []api.Expr
	for _, s := range samples() {
		for i := range s.Kids {
			if missing(s, i) {
				continue
			}
			h := s
			h.Kids = append([]api.Expr{}, s.Kids...)
			h.Kids[i] = e
			out = append(out, h)
		}
	}
	return out
}

// said: the text of an expression, as the chapter's form of its kind writes it. Of what is none it is no text that is read as the same.
func said(e api.Expr) string {
	forms := [...]string{
		api.Num: "N", api.Bool: "false", api.Unit: "()", api.Name: "X", api.Load: "!X", api.At: "X.[A]", api.None: "none",
		api.Let: "(let X = A in B)", api.If: "(if A then B else C)", api.Fun: "(fun X -> A)", api.App: "(A B)", api.Seq: "(A; B)",
		api.Store: "(X := A)", api.Put: "(X.[A] <- B)", api.Swap: "(swap X A)", api.Inc: "(add X A)", api.Cas: "(cas X A B)",
		api.Tell: "(print A)", api.Some: "(some A)", api.Pair: "(A, B)", api.Op: "(A X B)", api.Less: "(A < B)", api.Same: "(A = B)",
		api.Opt: "(match A with none -> B | some X -> C)", api.Two: "(match A with (X, Y) -> B)",
	}
	if e.Kind < 0 || e.Kind >= len(forms) {
		return ""
	}
	// X and Y are its names, N its number, A to C its kids.
	form := forms[e.Kind]
	switch {
	case e.Kind == api.Bool && e.N == 1:
		form = "true"
	case e.Kind == api.Opt && e.N == 1:
		form = "(match A with none -> B)"
	case e.Kind == api.Opt && e.N == 2:
		form = "(match A with some X -> C)"
	}
	var b strings.Builder
	for _, c := range form {
		switch {
		case c == 'X':
			b.WriteString(e.Text)
		case c == 'Y':
			b.WriteString(e.Other)
		case c == 'N':
			b.WriteString(strconv.Itoa(e.N))
		case c < 'A' || c > 'C':
			b.WriteRune(c)
		case int(c-'A') < len(e.Kids):
			b.WriteString(said(e.Kids[c-'A']))
		}
	}
	return b.String()
}

// Rules that hold everywhere.

// roomy: the same expression, its lists with spare room in which something stands.
func roomy(e api.Expr) api.Expr {
	kids := make([]api.Expr, len(e.Kids), len(e.Kids)+2)
	for i, k := range e.Kids {
		kids[i] = roomy(k)
	}
	kids[:cap(kids)][len(kids)] = api.Expr{Kind: api.Name, Text: "spare"}
	e.Kids = kids
	return e
}

// rooms: all that lies in an expression's lists, their spare room too.
func rooms(e api.Expr) []api.Expr {
	out := append([]api.Expr{}, e.Kids[:cap(e.Kids)]...)
	for _, k := range e.Kids {
		out = append(out, rooms(k)...)
	}
	return out
}

func TestLeavesAll(t *testing.T) {
	for _, s := range append(samples(), node(api.App), api.Expr{Kind: 99}) {
		p, want := alone(roomy(s)), alone(roomy(s))
		p.Decls = append(make([]api.Decl, 0, 3), api.Decl{Kind: api.Cell, Name: "x", N: -1, At: 3}, api.Decl{Kind: api.Row, Name: "v", N: 2, At: 4})
		p.Decls[:3][2].Name = "spare"
		want.Decls = append([]api.Decl{}, p.Decls[:3]...)[:2]
		Formed(p)
		Show(p)
		if !reflect.DeepEqual(p, want) || !reflect.DeepEqual(p.Decls[:3], want.Decls[:3]) || !reflect.DeepEqual(rooms(p.Domains[0]), rooms(want.Domains[0])) {
			t.Error("changed:", s)
		}
	}
}

// TestNewMemory: names whose bytes become others behind the call leave the text as it was.
func TestNewMemory(t *testing.T) {
	for i, want := range []string{"cell longname = - 3\ndomain longname end\n", "row longname 3\ndomain !longname end\n", "domain longname end\n"} {
		b := []byte("longname")
		name := unsafe.String(&b[0], len(b))
		p := []api.Program{
			{Decls: decls(api.Decl{Kind: api.Cell, Name: name, N: -3}), Domains: []api.Expr{named(name)}},
			{Decls: decls(api.Decl{Kind: api.Row, Name: name, N: 3}), Domains: []api.Expr{load(name)}},
			alone(named(name)),
		}[i]
		s, e := Show(p)
		for i := range b {
			b[i] = '?'
		}
		if e != api.OK || s != want {
			t.Errorf("%q, %d", s, e)
		}
	}
}

func TestAskedAgain(t *testing.T) {
	for _, p := range []api.Program{{}, alone(num(-1)), alone(opt(2, "x", none, unit, num(2))), alone(node(api.App)), alone(num(5))} {
		s, e := Show(p)
		f := Formed(p)
		Show(alone(of(api.Let, "y", node(api.Seq), unit)))
		Show(alone(of(api.Let, "y", somes(50), unit)))
		if again, e2 := Show(p); again != s || e2 != e || Formed(p) != f {
			t.Errorf("%q, %d, then %q, %d", s, e, again, e2)
		}
	}
}

// somes in one another, so deep.
func somes(depth int) api.Expr {
	e := none
	for range depth - 1 {
		e = node(api.Some, e)
	}
	return e
}

// TestLongTexts: a formed program's text may be longer than one that can be read.
func TestLongTexts(t *testing.T) {
	e := num(123456789)
	for range 14 {
		e = node(api.Pair, e, e)
	}
	s, f := Show(alone(e))
	if f != api.OK || !Formed(alone(e)) || len(s) != 12+9<<14+4*(1<<14-1) || s != "domain "+said(e)+" end\n" || strings.Count(s, "123456789") != 1<<14 {
		t.Error(short(s), f)
	}
}
