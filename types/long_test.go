package types

import (
	"testing"

	"selvage/api"
)

// P7.1, 4: of very many parts, and of types that are very deep or very wide.

func expr(kind int, kids ...api.Expr) api.Expr { return api.Expr{Kind: kind, Kids: kids} }

func worded(kind int, text string, kids ...api.Expr) api.Expr {
	return api.Expr{Kind: kind, Text: text, Kids: kids}
}

var (
	unit = expr(api.Unit)
	one  = api.Expr{Kind: api.Num, N: 1}
	yes  = api.Expr{Kind: api.Bool, N: 1}
)

func name(text string) api.Expr { return worded(api.Name, text) }

// all of those, one behind another, in seqs that are as deep as need be.
func all(l []api.Expr) api.Expr {
	if len(l) == 1 {
		return l[0]
	}
	return expr(api.Seq, all(l[:len(l)/2]), all(l[len(l)/2:]))
}

// alike: unit, if the two have one type.
func alike(a, b api.Expr) api.Expr {
	return worded(api.Let, "k", expr(api.If, yes, a, b), unit)
}

// leaf: of a value p that is made of pairs so deep, what stands at that place of it, as the name r in what is done with it.
func leaf(p, r string, place, depth int, do api.Expr) api.Expr {
	l, other := r, "q"
	if place>>(depth-1)&1 == 1 {
		l, other = other, l
	}
	if depth > 1 {
		do = leaf(r, r, place, depth-1, do)
	}
	return api.Expr{Kind: api.Two, Text: l, Other: other, Kids: []api.Expr{name(p), do}}
}

// chain: of a value made of pairs so deep each leaf is the option of the next one, told in an order that begins anywhere; the last one that of the first, if it is a ring.
func chain(depth int, ring bool) api.Expr {
	var l []api.Expr
	n := 1 << depth
	for k := range n {
		i := (k + n/3) % n
		if i == n-1 && !ring {
			continue
		}
		l = append(l, leaf("p", "a", i, depth, leaf("p", "b", (i+1)%n, depth, alike(name("a"), expr(api.Some, name("b"))))))
	}
	return worded(api.Let, "f", worded(api.Fun, "p", all(l)), unit)
}

func wantDomain(t *testing.T, e api.Expr, fit bool, what string) {
	t.Helper()
	e.At = 9
	p := api.Program{Domains: []api.Expr{e}}
	if fit {
		wantOf(t, p, api.OK, 0, what)
	} else {
		wantOf(t, p, api.ErrType, 9, what)
	}
}

func TestLongRings(t *testing.T) {
	for depth := 1; depth <= 12; depth++ {
		wantDomain(t, chain(depth, false), true, "a long chain")
		wantDomain(t, chain(depth, true), false, "a long ring")
	}
	// Only what stands behind the chain asks that its ends are alike, or that one of them is no option.
	for _, c := range []struct {
		do  api.Expr
		fit bool
	}{
		{alike(name("a"), name("b")), false},
		{alike(name("b"), name("b")), true},
		{alike(name("b"), one), true},
		{alike(name("a"), one), false},
		{alike(expr(api.Some, name("a")), name("b")), false},
		{alike(name("b"), expr(api.Pair, one, one)), true},
		{alike(name("b"), expr(api.Pair, name("a"), one)), false},
		{alike(name("b"), expr(api.Pair, one, name("a"))), false},
		{alike(name("b"), worded(api.Fun, "z", name("a"))), false},
	} {
		e := chain(10, false)
		e.Kids[0].Kids[0] = expr(api.Seq, e.Kids[0].Kids[0], leaf("p", "a", 0, 10, leaf("p", "b", 1<<10-1, 10, c.do)))
		wantDomain(t, e, c.fit, "the ends of a chain")
	}
}

// doubled: a name of the type of two of the last one's, and so on, so often: told at length such a type has no end.
func doubled(first api.Expr, names string, times int, do api.Expr) api.Expr {
	at := func(i int) string { return names + string(rune('a'+i%26)) + string(rune('a'+i/26)) }
	for i := times - 1; i >= 0; i-- {
		what := expr(api.Pair, name(at(i-1+26)), name(at(i-1+26)))
		if i == 0 {
			what = first
		}
		do = worded(api.Let, at(i+26), what, do)
	}
	return do
}

func TestWideTypes(t *testing.T) {
	last := func(names string, times int) api.Expr {
		i := times - 1 + 26
		return name(names + string(rune('a'+i%26)) + string(rune('a'+i/26)))
	}
	for _, c := range []struct {
		first, second api.Expr
		n, m          int
		fit           bool
	}{
		{one, one, 26, 26, true}, {one, yes, 26, 26, false}, {one, one, 25, 26, false}, {expr(api.None), expr(api.Some, yes), 26, 26, true}, {expr(api.None), yes, 26, 26, false},
		{one, one, 2, 2, true}, {one, one, 1, 2, false},
	} {
		e := doubled(c.first, "l", c.n, doubled(c.second, "r", c.m, alike(last("l", c.n), last("r", c.m))))
		wantDomain(t, e, c.fit, "two types that are very wide")
	}
	// What is not known yet may be as wide, or be a part of itself far within.
	for _, c := range []struct {
		do  api.Expr
		fit bool
	}{
		{unit, true}, {alike(name("z"), one), true}, {alike(name("y"), name("z")), true}, {alike(name("z"), last("l", 22)), false}, {alike(name("y"), last("l", 22)), true}, {alike(last("r", 22), last("l", 22)), true},
		{expr(api.Seq, alike(last("r", 22), last("l", 22)), alike(name("y"), expr(api.Some, name("z")))), false},
		{expr(api.Seq, alike(name("y"), last("l", 22)), alike(name("z"), last("r", 22))), false},
	} {
		e := worded(api.Fun, "z", worded(api.Fun, "y", doubled(name("z"), "l", 22, doubled(name("y"), "r", 22, c.do))))
		wantDomain(t, worded(api.Let, "f", e, unit), c.fit, "two types that are very wide and not known")
	}
}

// A program has but as many words as a text may have; what is formed may have far more expressions.
func TestManyExpressions(t *testing.T) {
	print1 := expr(api.Tell, one)
	for _, n := range []int{1 << 10, 1 << 17} {
		l := make([]api.Expr, n)
		for i := range l {
			l[i] = worded(api.Let, "o", expr(api.None), expr(api.Tell, name("n")))
		}
		e := worded(api.Let, "n", one, all(l))
		wantDomain(t, e, true, "very many expressions")
		l[n-1] = expr(api.Seq, print1, expr(api.Tell, expr(api.Some, name("n"))))
		wantDomain(t, worded(api.Let, "n", one, all(l)), false, "very many expressions, the last of no type")
		l[n-1] = api.Expr{Kind: api.Name, Text: "m", At: 77}
		wantOf(t, api.Program{Domains: []api.Expr{all(l[n/2:])}}, api.ErrName, 0, "very many expressions, without a name")
		wantOf(t, api.Program{Domains: []api.Expr{worded(api.Let, "n", one, all(l))}}, api.ErrName, 77, "very many expressions, the last one a name")
		l[n-1] = api.Expr{Kind: api.Opt, N: 1, At: 78, Kids: []api.Expr{expr(api.None), unit, unit}}
		wantOf(t, api.Program{Domains: []api.Expr{unit, worded(api.Let, "n", one, all(l))}}, api.ErrMatch, 78, "very many expressions, the last one a match")
	}
	// One name that all ask for the same.
	l := make([]api.Expr, 1<<15)
	for i := range l {
		l[i] = alike(expr(api.App, name("f"), expr(api.Pair, name("m"), expr(api.None))), name("m"))
	}
	wantDomain(t, worded(api.Let, "g", worded(api.Fun, "f", worded(api.Fun, "m", all(l))), unit), true, "one function")
	l[len(l)-1] = alike(name("f"), name("m"))
	wantDomain(t, worded(api.Let, "g", worded(api.Fun, "f", worded(api.Fun, "m", all(l))), unit), false, "one function that is what it is given")
}
