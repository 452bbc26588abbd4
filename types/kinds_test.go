package types

import (
	"strconv"
	"strings"
	"testing"

	"selvage/api"
)

// P7.1, 4: types of each kind of expression.

// ty is a type: of the kind "int", "bool", "unit", "fun", "opt" or "pair", with the types of which it is made.
type ty struct {
	kind string
	a, b *ty
}

var (
	tInt  = &ty{"int", nil, nil}
	tBool = &ty{"bool", nil, nil}
	tUnit = &ty{"unit", nil, nil}
)

func fun(a, b *ty) *ty    { return &ty{"fun", a, b} }
func opt(a *ty) *ty       { return &ty{"opt", a, nil} }
func pairOf(a, b *ty) *ty { return &ty{"pair", a, b} }

func (t *ty) is(o *ty) bool {
	if t == nil || o == nil {
		return t == o
	}
	return t.kind == o.kind && t.a.is(o.a) && t.b.is(o.b)
}

// value: an expression that has just that type.
func (t *ty) value() string {
	switch t.kind {
	case "int":
		return "1"
	case "bool":
		return "true"
	case "unit":
		return "()"
	case "fun":
		return "(fun q -> (" + t.a.use("q") + "; " + t.b.value() + "))"
	case "opt":
		return "(some " + t.a.value() + ")"
	}
	return "(" + t.a.value() + ", " + t.b.value() + ")"
}

// use: an expression that is unit, just if that one has the type.
func (t *ty) use(e string) string {
	switch t.kind {
	case "int":
		return "(print " + e + ")"
	case "bool":
		return "(if " + e + " then () else ())"
	case "unit":
		return "(" + e + "; ())"
	case "fun":
		return t.b.use("(" + e + " " + t.a.value() + ")")
	case "opt":
		return "(match " + e + " with none -> () | some q -> " + t.a.use("q") + ")"
	}
	return "(match " + e + " with (q, w) -> (" + t.a.use("q") + "; " + t.b.use("w") + "))"
}

// some types, functions of functions, options of options and pairs of pairs among them.
func someTypes() []*ty {
	return []*ty{
		tInt, tBool, tUnit,
		fun(tInt, tInt), fun(tInt, tBool), fun(tBool, tInt), fun(tUnit, tUnit),
		opt(tInt), opt(tBool), pairOf(tInt, tBool), pairOf(tBool, tInt), pairOf(tInt, tInt),
		fun(fun(tInt, tInt), tInt), fun(tInt, fun(tInt, tInt)), opt(opt(tInt)), opt(fun(tInt, tInt)), pairOf(pairOf(tInt, tBool), tInt), pairOf(tInt, pairOf(tBool, tInt)), fun(opt(tInt), pairOf(tInt, tInt)),
	}
}

// form of an expression: its text, with $ for each kid, and whether its kids and itself may have those types.
type form struct {
	text string
	fits func(kids []*ty, own *ty) bool
}

// fixed: kids and the expression itself have just these types.
func fixed(own *ty, kids ...*ty) func([]*ty, *ty) bool {
	return func(k []*ty, o *ty) bool {
		for i := range kids {
			if !kids[i].is(k[i]) {
				return false
			}
		}
		return own.is(o)
	}
}

func forms() []form {
	return []form{
		{"7", fixed(tInt)}, {"true", fixed(tBool)}, {"false", fixed(tBool)}, {"()", fixed(tUnit)}, {"!x", fixed(tInt)}, {"!a", fixed(tInt)},
		{"(x := $)", fixed(tUnit, tInt)}, {"(a := $)", fixed(tUnit, tInt)}, {"v.[$]", fixed(tInt, tInt)}, {"(v.[$] <- $)", fixed(tUnit, tInt, tInt)},
		{"(swap a $)", fixed(tInt, tInt)}, {"(add a $)", fixed(tInt, tInt)}, {"(cas a $ $)", fixed(tBool, tInt, tInt)}, {"(print $)", fixed(tUnit, tInt)},
		{"($ + $)", fixed(tInt, tInt, tInt)}, {"($ - $)", fixed(tInt, tInt, tInt)}, {"($ * $)", fixed(tInt, tInt, tInt)}, {"($ / $)", fixed(tInt, tInt, tInt)},
		{"($ < $)", fixed(tBool, tInt, tInt)}, {"($ = $)", fixed(tBool, tInt, tInt)},
		{"(let n = $ in $)", func(k []*ty, own *ty) bool { return own.is(k[1]) }},
		{"(let n = $ in n)", func(k []*ty, own *ty) bool { return own.is(k[0]) }},
		{"(let n = $ in let m = n in (n, m))", func(k []*ty, own *ty) bool { return own.is(pairOf(k[0], k[0])) }},
		{"(if $ then $ else $)", func(k []*ty, own *ty) bool { return k[0].is(tBool) && own.is(k[1]) && own.is(k[2]) }},
		{"(fun n -> $)", func(k []*ty, own *ty) bool { return own.kind == "fun" && own.b.is(k[0]) }},
		{"(fun n -> n)", func(k []*ty, own *ty) bool { return own.kind == "fun" && own.a.is(own.b) }},
		{"(fun n -> if true then $ else n)", func(k []*ty, own *ty) bool { return own.is(fun(k[0], k[0])) }},
		{"($ $)", func(k []*ty, own *ty) bool { return k[0].is(fun(k[1], own)) }},
		{"($; $)", func(k []*ty, own *ty) bool { return k[0].is(tUnit) && own.is(k[1]) }},
		{"none", func(k []*ty, own *ty) bool { return own.kind == "opt" }},
		{"(some $)", func(k []*ty, own *ty) bool { return own.is(opt(k[0])) }},
		{"($, $)", func(k []*ty, own *ty) bool { return own.is(pairOf(k[0], k[1])) }},
		{"(match $ with none -> $ | some n -> $)", func(k []*ty, own *ty) bool { return k[0].kind == "opt" && own.is(k[1]) && own.is(k[2]) }},
		{"(match $ with none -> $ | some n -> n)", func(k []*ty, own *ty) bool { return k[0].is(opt(own)) && own.is(k[1]) }},
		{"(match $ with (n, m) -> $)", func(k []*ty, own *ty) bool { return k[0].kind == "pair" && own.is(k[1]) }},
		{"(match $ with (n, m) -> n)", func(k []*ty, own *ty) bool { return k[0].kind == "pair" && own.is(k[0].a) }},
		{"(match $ with (n, m) -> m)", func(k []*ty, own *ty) bool { return k[0].kind == "pair" && own.is(k[0].b) }},
		{"(match $ with (n, m) -> (m, n))", func(k []*ty, own *ty) bool { return k[0].kind == "pair" && own.is(pairOf(k[0].b, k[0].a)) }},
		{"(match $ with (n, n) -> n)", func(k []*ty, own *ty) bool { return k[0].kind == "pair" && own.is(k[0].b) }},
	}
}

// wantFit: types can be given to a text's one domain, or can't.
func wantFit(t *testing.T, text string, fit bool) {
	t.Helper()
	p := program(t, text)
	if fit {
		wantOf(t, p, api.OK, 0, text)
	} else {
		wantOf(t, p, api.ErrType, p.Domains[0].At, text)
	}
}

const someDecls = "cell x = 1 atom a = 2 row v 3 "

// Each kind of expression, with kids of all those types, where each of them is asked for: it has the type just if the words of the chapter say so.
func TestKinds(t *testing.T) {
	l := someTypes()
	for _, f := range forms() {
		n := strings.Count(f.text, "$")
		use := l
		if n == 3 {
			use = l[:12]
		}
		kids := make([]*ty, n)
		fits := 0
		var each func(i int)
		each = func(i int) {
			if i < n {
				for _, kids[i] = range use {
					each(i + 1)
				}
				return
			}
			text := f.text
			for _, k := range kids {
				text = strings.Replace(text, "$", k.value(), 1)
			}
			for _, own := range use {
				fit := f.fits(kids, own)
				wantFit(t, someDecls+"domain "+own.use(text)+" end", fit)
				if fit {
					fits++
				}
			}
		}
		each(0)
		if fits == 0 {
			t.Error(f.text, "never fits")
		}
	}
}

// A domain has to be unit, whatever it is.
func TestDomainIsUnit(t *testing.T) {
	for _, own := range someTypes() {
		for _, around := range []string{"$", "let n = 1 in $", "if true then $ else $", "(); $", "match (1, 2) with (n, m) -> $", "match none with none -> $ | some n -> $", "(fun n -> n) $"} {
			wantFit(t, someDecls+"domain "+strings.ReplaceAll(around, "$", own.value())+" end", own == tUnit)
		}
	}
	for _, f := range forms() {
		if n := strings.Count(f.text, "$"); n == 0 && !strings.Contains(f.text, "n -> n") {
			wantFit(t, someDecls+"domain "+f.text+" end", f.fits(nil, tUnit))
		}
	}
	want(t, "domain @fun n -> n end", api.ErrType)
	want(t, "domain @none end", api.ErrType)
}

// A name has one type; what is made anew at each place may have one at each.
func TestOneType(t *testing.T) {
	wantAll(t, api.OK,
		"domain let n = 1 in (print n; print (n + n)) end",
		"domain let f = fun n -> n in print (f (f 1)) end",
		"domain let f = fun n -> n in (print (f 1); print (f 2)) end",
		"domain let a = if true then none else some 1 in let b = if true then none else some true in () end",
		"domain let a = (none, none) in match a with (b, c) -> ((match b with none -> () | some n -> print n); match c with none -> () | some n -> if n then () else ()) end",
		"domain print ((fun n -> n) 1); if (fun n -> n) true then () else () end",
		"domain (match none with none -> () | some n -> print n); match none with none -> () | some n -> if n then () else () end",
		"domain let n = none in ((match n with none -> () | some k -> print k); (match n with none -> () | some k -> print k)) end",
		"domain let f = fun n -> none in match (f 1, f 2) with (a, b) -> () end",
		"domain let f = fun o -> match o with none -> 0 | some n -> n in print (f none + f (some 2)) end",
		"domain let n = none in () end", "domain let f = fun a -> fun b -> a b in () end", "domain let f = fun a -> a in () end",
		"domain let twice = fun f -> fun n -> f (f n) in print (twice (fun n -> n * n) 3) end",
		"domain let f = fun g -> g (fun n -> n + 1) in print (f (fun h -> h 1)) end",
		"domain let f = fun o -> match o with none -> none | some p -> match p with (a, b) -> some (b, a) in match f (some (1, true)) with none -> () | some q -> match q with (b, n) -> if b then print n else () end",
	)
	wantAll(t, api.ErrType,
		"domain @let f = fun n -> n in (print (f 1); if f true then () else ()) end",
		"domain @let n = none in ((match n with none -> () | some k -> print k); (match n with none -> () | some k -> if k then () else ())) end",
		"domain @let f = fun n -> none in match (f 1, f true) with (a, b) -> () end",
		"domain @let f = fun n -> (n + 1; if n then () else ()) in () end",
		"domain @let f = fun n -> if n then n else 1 in () end",
		"domain @let f = fun g -> (print (g 1); if g 1 then () else ()) in () end",
		"domain @let f = fun g -> (print (g 1); print (g true)) in () end",
		"domain @let p = (none, none) in match p with (a, b) -> (let c = if true then a else b in ((match a with none -> () | some n -> print n); match b with none -> () | some n -> if n then () else ())) end",
		"domain @let twice = fun f -> fun n -> f (f n) in if twice (fun n -> n < 1) 3 then () else () end",
		"domain @match some (some 1) with none -> () | some n -> print n end",
		"domain @match ((1, 2), 3) with (a, b) -> print a end",
		"domain @(fun n -> print n) () end", "domain @1 2 end", "domain @() () end",
	)
}

// P7.1, 4: no type is a part of itself.
func TestPartOfItself(t *testing.T) {
	wantAll(t, api.ErrType,
		"domain @let f = fun n -> n n in () end",
		"domain @let f = fun n -> n in f f; () end",
		"domain @let f = fun n -> if true then n else some n in () end",
		"domain @let f = fun n -> if true then some n else n in () end",
		"domain @let f = fun n -> if true then n else (n, 1) in () end",
		"domain @let f = fun n -> if true then n else (1, n) in () end",
		"domain @let f = fun n -> if true then n else fun m -> n in () end",
		"domain @let f = fun n -> if true then n else fun m -> if true then m else n in () end",
		"domain @let f = fun n -> n (some n) in () end",
		"domain @let f = fun n -> fun m -> (n m, m n) in () end",
		"domain @let n = none in let m = if true then n else some n in () end",
		"domain @let f = fun g -> (fun n -> g (n n)) (fun n -> g (n n)) in () end",
		"domain @let f = fun o -> match o with none -> o | some n -> if true then n else o in () end",
		"domain @let f = fun p -> match p with (a, b) -> if true then a else p in () end",
		"domain @let f = fun p -> match p with (a, b) -> if true then b else p in () end",
		"domain @let f = fun a -> fun b -> (let c = if true then a else some b in let d = if true then b else some a in ()) in () end",
		"domain @let f = fun a -> fun b -> (let c = if true then a else some b in let d = if true then a else b in ()) in () end",
	)
	wantAll(t, api.OK,
		"domain let f = fun n -> if true then n else n in () end",
		"domain let f = fun n -> some (some n) in () end",
		"domain let f = fun n -> fun m -> (n m, m) in () end",
		"domain let f = fun p -> match p with (a, b) -> if true then a else b in () end",
		"domain let f = fun a -> fun b -> (let c = if true then a else some b in let d = if true then b else some 1 in ()) in () end",
		"domain let f = fun a -> fun b -> (let c = if true then (a, b) else (b, a) in ()) in () end",
	)
}

// Of n names each is what is made of the next one; the last one, if it is a ring, of the first. Which of them comes first does not matter.
func TestRings(t *testing.T) {
	wraps := []string{"some $", "($, 1)", "(1, $)", "fun q -> $", "fun q -> if true then q else $", "fun q -> let w = if true then q else $ in 1", "some (some $)", "($, $)", "(some $, none)"}
	for n := 1; n <= 18; n++ {
		for first := range n {
			for w, wrap := range wraps {
				if n > 6 && (first+w)%5 != 0 {
					continue
				}
				for _, ring := range []bool{false, true} {
					name := func(i int) string { return "n" + strconv.Itoa(i%n) }
					text := ""
					for i := range n {
						text += "fun " + name(i) + " -> "
					}
					text += "("
					for k := range n {
						i := (first + k) % n
						if i == n-1 && !ring {
							continue
						}
						text += "(let k = if true then " + name(i) + " else " + strings.ReplaceAll(wrap, "$", name(i+1)) + " in ()); "
					}
					if ring {
						want(t, "domain @let f = "+text+"()) in () end", api.ErrType)
					} else {
						want(t, "domain let f = "+text+"()) in () end", api.OK)
					}
				}
			}
		}
	}
}
