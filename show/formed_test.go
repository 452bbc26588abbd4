package show

import (
	"math"
	"strconv"
	"strings"
	"testing"

	"selvage/api"
)

// P6.1: which programs are formed, by Formed and by Show's ErrForm.

// badNames are none: of no bytes, of too many, of other ones, or a word of the language.
func badNames() []string {
	return append(strings.Fields("cell atom row domain end let in if then else fun match with none some true false print swap add cas"),
		"", "abcdefghijklmnopq", "a2345678901234567", strings.Repeat("a", 70000), "1", "1a", "X", "aB", "a_b", "_", "a b", " a", "a ", "a\n", "a#", "#", "$", "a$", "x.[1]", "!x", "-", "+", ":=", "()", "?", "\x00", "\xff", "caf\u00e9")
}

func goodNames() []string {
	return []string{"a", "z", "x", "a0", "z9", "lets", "xend", "cells", "if1", "abcdefghijklmnop", "a234567890123456"}
}

func TestHowManyDeclarations(t *testing.T) {
	for _, d := range []api.Decl{{Kind: api.Cell, Name: "x", N: 17}, {Kind: api.Atom, Name: "a", N: -9}, {Kind: api.Row, Name: "v", N: 1}} {
		var p api.Program
		p.Domains = []api.Expr{unit}
		for n := range 30 {
			switch {
			case n <= 8:
				wantShown(t, p, strings.Repeat(decl(d)+"\n", n)+"domain () end\n")
			default:
				wantNone(t, p, strconv.Itoa(n)+" times "+decl(d))
			}
			p.Decls = append(p.Decls, d)
		}
	}
	wantNone(t, api.Program{Decls: make([]api.Decl, 1<<20), Domains: []api.Expr{unit}}, "very many declarations")
}

// rows of so many places each.
func rows(sizes ...int) []api.Decl {
	var out []api.Decl
	for _, n := range sizes {
		out = append(out, api.Decl{Kind: api.Row, Name: "v", N: n})
	}
	return out
}

func TestHowManyLocations(t *testing.T) {
	cell, atom := api.Decl{Kind: api.Cell, Name: "x", N: 100}, api.Decl{Kind: api.Atom, Name: "a", N: -100}
	for _, l := range [][]api.Decl{
		rows(8, 8), rows(8, 7, 1), rows(1, 8, 7), rows(2, 2, 2, 2, 2, 2, 2, 2), rows(5, 5, 5), append(rows(8, 7), cell), append(rows(8, 7), atom), append([]api.Decl{cell, atom}, rows(8, 6)...),
		append(rows(8, 2), cell, cell, cell, atom, atom, atom),
	} {
		p := api.Program{Decls: l, Domains: []api.Expr{unit}}
		if s, e := Show(p); !Formed(p) || e != api.OK || strings.Count(s, "\n") != len(l)+1 {
			t.Errorf("%v: %q, %d", l, s, e)
		}
	}
	for _, l := range [][]api.Decl{
		rows(8, 8, 1), rows(1, 8, 8), rows(8, 7, 2), rows(8, 8, 8), rows(2, 2, 2, 2, 2, 2, 2, 3), append(rows(8, 8), cell), append(rows(8, 8), atom), append([]api.Decl{cell, atom}, rows(8, 7)...), append([]api.Decl{cell}, rows(8, 8)...), append([]api.Decl{atom}, rows(8, 8)...),
		append(rows(8, 3), cell, cell, cell, atom, atom, atom), rows(8, 8, 8, 8, 8, 8, 8, 8),
	} {
		wantNone(t, api.Program{Decls: l, Domains: []api.Expr{unit}}, "more than 16 locations")
	}
}

func TestNumbersOfDeclarations(t *testing.T) {
	for _, n := range []int{math.MinInt, math.MinInt32, -1000000001, -1000000000, -999999999, -17, -9, -8, -1, 0, 1, 2, 7, 8, 9, 16, 17, 999999999, 1000000000, 1000000001, math.MaxInt32, math.MaxInt} {
		for kind := api.Cell; kind <= api.Row; kind++ {
			d := api.Decl{Kind: kind, Name: "x", N: n}
			p := api.Program{Decls: decls(d), Domains: []api.Expr{unit}}
			good := -1000000000 < n && n < 1000000000
			if kind == api.Row {
				good = 1 <= n && n <= 8
			}
			sign, digits := "", strconv.Itoa(n)
			if n < 0 {
				sign, digits = "- ", digits[1:]
			}
			switch {
			case !good:
				wantNone(t, p, "a declaration's number "+strconv.Itoa(n))
			case kind == api.Row:
				wantShown(t, p, "row x "+digits+"\ndomain () end\n")
			default:
				wantShown(t, p, []string{"", "cell", "atom"}[kind]+" x = "+sign+digits+"\ndomain () end\n")
			}
		}
	}
	// Rows of numbers that make up for one another.
	for _, l := range [][]api.Decl{rows(0), rows(9), rows(-1, 8, 8), rows(9, -8), rows(8, 0), rows(0, 8), rows(8, 8, 0), rows(math.MaxInt, math.MinInt), rows(math.MaxInt, 1), rows(16)} {
		wantNone(t, api.Program{Decls: l, Domains: []api.Expr{unit}}, "a row's number")
	}
}

func TestKindsOfDeclarations(t *testing.T) {
	for _, kind := range []int{math.MinInt, -1, 0, 4, 5, 25, math.MaxInt} {
		for _, n := range []int{0, 1, 8} {
			wantNone(t, api.Program{Decls: decls(api.Decl{Kind: kind, Name: "x", N: n}), Domains: []api.Expr{unit}}, "a declaration of the kind "+strconv.Itoa(kind))
		}
	}
}

func TestNamesOfDeclarations(t *testing.T) {
	for kind := api.Cell; kind <= api.Row; kind++ {
		good := api.Decl{Kind: kind, Name: "x", N: 1}
		for _, s := range goodNames() {
			wantShown(t, api.Program{Decls: decls(api.Decl{Kind: kind, Name: s, N: 1}, good), Domains: []api.Expr{unit}}, strings.Replace(decl(good), "x", s, 1)+"\n"+decl(good)+"\ndomain () end\n")
		}
		for _, s := range badNames() {
			bad := api.Decl{Kind: kind, Name: s, N: 1}
			for _, l := range [][]api.Decl{{bad}, {bad, good}, {good, bad}, {good, bad, good}} {
				wantNone(t, api.Program{Decls: l, Domains: []api.Expr{unit}}, "a declaration's name "+short(s))
			}
		}
	}
}

func TestHowManyDomains(t *testing.T) {
	wantNone(t, api.Program{}, "nothing")
	wantNone(t, api.Program{Domains: []api.Expr{}}, "no domain")
	wantNone(t, api.Program{Decls: rows(1)}, "no domain, with a declaration")
	var p api.Program
	for n := 1; n < 20; n++ {
		p.Domains = append(p.Domains, num(n))
		if n > 3 {
			wantNone(t, p, strconv.Itoa(n)+" domains")
		}
	}
	p.Domains = p.Domains[:3]
	wantShown(t, p, "domain 1 end\ndomain 2 end\ndomain 3 end\n")
	p.Domains = p.Domains[:1]
	wantShown(t, p, "domain 1 end\n")
	wantNone(t, api.Program{Domains: make([]api.Expr, 1<<20)}, "very many domains")
}

func TestDepth(t *testing.T) {
	for _, s := range samples() {
		for i := range s.Kids {
			if missing(s, i) {
				continue
			}
			for _, depth := range []int{2, 3, 59, 60, 61, 62, 100} {
				e := chain(s, i, depth)
				if depth <= 60 {
					wantDomain(t, e, said(e))
					continue
				}
				why := strconv.Itoa(depth) + " deep: " + short(said(e))
				wantNone(t, alone(e), why)
				wantNone(t, api.Program{Domains: []api.Expr{unit, e}}, why)
				wantNone(t, api.Program{Domains: []api.Expr{e, unit, unit}}, why)
				wantNone(t, api.Program{Domains: []api.Expr{unit, unit, e}}, why)
			}
		}
	}
	wantDomain(t, somes(60), strings.Repeat("(some ", 59)+"none"+strings.Repeat(")", 59))
	for _, depth := range []int{61, 1 << 10, 1 << 16} {
		wantNone(t, alone(somes(depth)), "somes")
	}
}

// chain: a sample in itself, in one of its places, so that it is so deep.
func chain(s api.Expr, place, depth int) api.Expr {
	e := unit
	for range depth - 1 {
		outer := s
		outer.Kids = append([]api.Expr{}, s.Kids...)
		outer.Kids[place] = e
		e = outer
	}
	return e
}

// TestInItself: an expression that is its own kid has no end, but the calls do.
func TestInItself(t *testing.T) {
	for _, s := range samples() {
		for i := range s.Kids {
			if missing(s, i) {
				continue
			}
			e := s
			e.Kids = append([]api.Expr{}, s.Kids...)
			e.Kids[i] = e
			wantNone(t, alone(e), why(e, "in itself"))
		}
	}
}

// Domains of full depth, three of them, and what is as deep on another side, are formed.
func TestDeepEverywhere(t *testing.T) {
	p := api.Program{Domains: []api.Expr{somes(60), node(api.Pair, somes(59), somes(59)), opt(1, "", somes(59), somes(58), unit)}}
	wantShown(t, p, "domain "+said(p.Domains[0])+" end\ndomain "+said(p.Domains[1])+" end\ndomain "+said(p.Domains[2])+" end\n")
	for _, e := range []api.Expr{node(api.Pair, unit, somes(60)), node(api.Pair, somes(60), unit), node(api.Pair, somes(60), somes(60)), opt(3, "x", none, somes(60), unit), opt(3, "x", none, unit, somes(60)), node(api.If, unit, unit, somes(60))} {
		wantNone(t, alone(e), "61 deep")
	}
}

// wantSpoilt: a program is none, wherever in it the expression stands.
func wantSpoilt(t *testing.T, e api.Expr, why string) {
	t.Helper()
	wantNone(t, alone(e), why)
	wantNone(t, api.Program{Domains: []api.Expr{e, unit}}, why+", ahead of another domain")
	wantNone(t, api.Program{Decls: rows(1), Domains: []api.Expr{unit, yes, e}}, why+", behind other domains")
	for _, h := range holding(e) {
		wantNone(t, alone(h), why+", within "+strconv.Itoa(h.Kind))
	}
	wantNone(t, alone(chain(node(api.Seq, unit, e), 0, 58)), why+", deep")
}

func why(e api.Expr, what string) string {
	return "kind " + strconv.Itoa(e.Kind) + ", N " + strconv.Itoa(e.N) + ": " + what
}

func TestKids(t *testing.T) {
	for _, s := range samples() {
		n := len(s.Kids)
		for _, more := range []api.Expr{unit, num(1), {}} {
			e := s
			e.Kids = append(s.Kids[:n:n], more)
			wantSpoilt(t, e, why(e, "a kid too many"))
			e.Kids = append(e.Kids, unit)
			wantSpoilt(t, e, why(e, "two kids too many"))
		}
		for k := range n {
			e := s
			e.Kids = s.Kids[:k]
			wantSpoilt(t, e, why(e, "kids too few"))
			e.Kids = s.Kids[n-k:]
			wantSpoilt(t, e, why(e, "kids too few, from the front"))
		}
		e := s
		e.Kids = make([]api.Expr, 1<<16)
		wantNone(t, alone(e), why(e, "very many kids"))
		if n == 0 {
			e.Kids = []api.Expr{}
			wantDomain(t, e, said(e))
		}
	}
}

func TestKinds(t *testing.T) {
	for _, kind := range []int{math.MinInt, -26, -1, 0, 26, 27, 99, 256 + api.Num, math.MaxInt} {
		for _, kids := range [][]api.Expr{nil, {unit}, {unit, unit}, {unit, unit, unit}} {
			for _, e := range []api.Expr{{}, {Text: "x"}, {N: 1}, {Text: "x", Other: "y"}, {Text: "+"}} {
				e.Kind, e.Kids = kind, kids
				wantSpoilt(t, e, why(e, "no kind"))
			}
		}
	}
}

func usesName(e api.Expr) bool {
	switch e.Kind {
	case api.Name, api.Let, api.Fun, api.Load, api.Store, api.At, api.Put, api.Swap, api.Inc, api.Cas, api.Two:
		return true
	}
	return e.Kind == api.Opt && e.N > 1
}

func TestTexts(t *testing.T) {
	used := 0
	for _, s := range samples() {
		if usesName(s) {
			used++
			for _, name := range goodNames() {
				s.Text = name
				wantDomain(t, s, said(s))
			}
			for _, name := range badNames() {
				s.Text = name
				wantSpoilt(t, s, why(s, "its Text "+short(name)))
			}
			continue
		}
		for _, text := range append(badNames(), goodNames()...) {
			signed := s.Kind == api.Op && (text == "+" || text == "-")
			if empty := s.Kind != api.Op && text == ""; !signed && !empty {
				s.Text = text
				wantSpoilt(t, s, why(s, "its Text "+short(text)))
			}
		}
	}
	if used != 14 {
		t.Error(used)
	}
}

func TestOthers(t *testing.T) {
	for _, s := range samples() {
		if s.Kind != api.Two {
			for _, other := range []string{"x", "y", "let", "+", " ", "\x00", "abcdefghijklmnopq", s.Text + "x"} {
				s.Other = other
				wantSpoilt(t, s, why(s, "its Other "+other))
			}
			continue
		}
		for _, name := range goodNames() {
			s.Other = name
			wantDomain(t, s, said(s))
		}
		for _, name := range badNames() {
			s.Other = name
			wantSpoilt(t, s, why(s, "its Other "+short(name)))
		}
	}
}

func TestSigns(t *testing.T) {
	for _, sign := range []string{"+", "-", "*", "/"} {
		wantDomain(t, of(api.Op, sign, num(6), num(2)), "(6 "+sign+" 2)")
	}
	for _, sign := range []string{"", "%", "<", "=", ":=", "<-", "->", "++", "+-", " +", "+ ", "- ", "!", ";", ",", "|", "x", "add", "^", "&", "\x00", "/*", "//", "(", "+\n"} {
		wantSpoilt(t, of(api.Op, sign, num(6), num(2)), "the sign "+sign)
	}
}

func TestNumbersOfExpressions(t *testing.T) {
	for _, n := range []int{math.MinInt, -1000000000, -999999999, -3, -2, -1, 0, 1, 2, 3, 4, 5, 7, 8, 999999999, 1000000000, 1000000001, math.MaxInt32, math.MaxInt} {
		for _, s := range samples() {
			good := n == 0
			switch s.Kind {
			case api.Num:
				good = 0 <= n && n <= 999999999
			case api.Bool:
				good = n == 0 || n == 1
			case api.Opt:
				continue
			}
			s.N = n
			if good {
				wantDomain(t, s, said(s))
			} else {
				wantSpoilt(t, s, why(s, "its N"))
			}
		}
	}
}

// Each N, with some's name and without, with kids in the places of arms or with none.
func TestMatchesOfOptions(t *testing.T) {
	for _, n := range []int{math.MinInt, -3, -2, -1, 0, 1, 2, 3, 4, 5, 6, 7, math.MaxInt} {
		for _, text := range []string{"", "x", "let", "X"} {
			for _, first := range []api.Expr{unit, {Kind: api.Unit, At: 77}, num(5)} {
				for _, second := range []api.Expr{unit, {Kind: api.Unit, At: -77}, num(6)} {
					e := opt(n, text, named("o"), first, second)
					switch {
					case n == 1 && text == "" && second.Kind == api.Unit:
						wantDomain(t, e, "(match o with none -> "+said(first)+")")
					case n == 2 && text == "x" && first.Kind == api.Unit:
						wantDomain(t, e, "(match o with some x -> "+said(second)+")")
					case n == 3 && text == "x":
						wantDomain(t, e, "(match o with none -> "+said(first)+" | some x -> "+said(second)+")")
					default:
						wantSpoilt(t, e, why(e, "a match of options"))
					}
				}
			}
		}
	}
}

// What is in the place of an arm that is not there is Unit and nothing more, but for its place.
func TestMissingArms(t *testing.T) {
	others := []api.Expr{{}, {Kind: api.Unit, Text: "x"}, {Kind: api.Unit, Other: "x"}, {Kind: api.Unit, N: 1}, {Kind: api.Unit, N: -1}, {Kind: api.Unit, Kids: []api.Expr{unit}}, {Kind: api.Unit, At: 5, N: 5}, {Kind: -1}, {Kind: 26}, {Kind: api.Unit, Kids: []api.Expr{{}}}}
	for _, s := range samples() {
		if s.Kind != api.Unit {
			others = append(others, s)
		}
	}
	for _, e := range others {
		wantSpoilt(t, opt(1, "", none, unit, e), "in the place of some's arm: "+strconv.Itoa(e.Kind))
		wantSpoilt(t, opt(2, "x", none, e, unit), "in the place of none's arm: "+strconv.Itoa(e.Kind))
		wantSpoilt(t, opt(1, "", none, e, e), "twice: "+strconv.Itoa(e.Kind))
	}
	for _, at := range []int{math.MinInt, -1, 0, 1, 8192, math.MaxInt} {
		missing := api.Expr{Kind: api.Unit, At: at, Kids: []api.Expr{}}
		wantDomain(t, api.Expr{Kind: api.Opt, N: 1, At: 3, Kids: []api.Expr{none, yes, missing}}, "(match none with none -> true)")
		wantDomain(t, api.Expr{Kind: api.Opt, N: 2, At: 3, Text: "x", Kids: []api.Expr{none, missing, yes}}, "(match none with some x -> true)")
	}
}

// Whatever the places, a program is formed, and its text is the same.
func TestPlaces(t *testing.T) {
	for _, at := range []int{math.MinInt, -1, 0, 1, 8192, math.MaxInt} {
		for _, s := range samples() {
			p := api.Program{Decls: decls(api.Decl{Kind: api.Cell, Name: "x", N: 1, At: at}, api.Decl{Kind: api.Row, Name: "v", N: 1, At: -at}), Domains: []api.Expr{placed(s, at)}}
			wantShown(t, p, "cell x = 1\nrow v 1\ndomain "+said(s)+" end\n")
		}
	}
}

// placed: the same expression, each part of it in this place.
func placed(e api.Expr, at int) api.Expr {
	e.At = at
	kids := e.Kids
	e.Kids = nil
	for _, k := range kids {
		e.Kids = append(e.Kids, placed(k, at))
	}
	return e
}
