package types

import (
	"math"
	"reflect"
	"strconv"
	"strings"
	"testing"

	"selvage/api"
	"selvage/parse"
	"selvage/show"
)

// program of a text.
func program(t *testing.T, text string) api.Program {
	t.Helper()
	p, e, at := parse.Parse(text)
	if e != api.OK {
		t.Fatalf("%s: %d at %d", text, e, at)
	}
	return p
}

// want: what is answered of a text; the place is where @ stands in it (which is no part of it), and 0 where none does.
func want(t *testing.T, text string, e api.Errno) {
	t.Helper()
	ahead, behind, found := strings.Cut(text, "@")
	at := 0
	if found {
		at = len(ahead)
	}
	wantOf(t, program(t, ahead+behind), e, at, text)
}

func wantOf(t *testing.T, p api.Program, e api.Errno, at int, what string) {
	t.Helper()
	if gotE, gotAt := Check(p); gotE != e || gotAt != at {
		t.Errorf("%s: %d at %d, not %d at %d", what, gotE, gotAt, e, at)
	}
}

func wantAll(t *testing.T, e api.Errno, texts ...string) {
	t.Helper()
	for _, s := range texts {
		want(t, s, e)
	}
}

// P7.1, 1: what is not formed.

func TestNotFormed(t *testing.T) {
	unit := api.Expr{Kind: api.Unit, At: 5}
	good := api.Program{Decls: []api.Decl{{Kind: api.Cell, Name: "x", At: 3}}, Domains: []api.Expr{unit}}
	wantOf(t, good, api.OK, 0, "what is formed")
	for what, p := range map[string]api.Program{
		"nothing":                {},
		"no domain":              {Decls: good.Decls},
		"four domains":           {Domains: []api.Expr{unit, unit, unit, unit}},
		"no kind":                {Domains: []api.Expr{{At: 7}}},
		"a kind above all":       {Domains: []api.Expr{unit, {Kind: 26, At: 7}}},
		"a kind below all":       {Domains: []api.Expr{{Kind: -1, At: 7}}},
		"unit with a text":       {Domains: []api.Expr{{Kind: api.Unit, Text: "x", At: 7}}},
		"unit with a kid":        {Domains: []api.Expr{{Kind: api.Unit, Kids: []api.Expr{unit}}}},
		"a let without kids":     {Domains: []api.Expr{{Kind: api.Let, Text: "x"}}},
		"a let with one kid":     {Domains: []api.Expr{{Kind: api.Let, Text: "x", Kids: []api.Expr{unit}}}},
		"a fun without a kid":    {Domains: []api.Expr{{Kind: api.Fun, Text: "x"}}},
		"a match without arms":   {Domains: []api.Expr{{Kind: api.Opt, Text: "x", N: 0, Kids: []api.Expr{unit, unit, unit}}}},
		"a match of one kid":     {Domains: []api.Expr{{Kind: api.Opt, Text: "x", N: 3, Kids: []api.Expr{{Kind: api.None}}}}},
		"a pair's one name":      {Domains: []api.Expr{{Kind: api.Two, Text: "x", Kids: []api.Expr{unit, unit}}}},
		"a name of no bytes":     {Domains: []api.Expr{{Kind: api.Name}}},
		"a number too great":     {Domains: []api.Expr{{Kind: api.Num, N: 1000000000}}},
		"a bool of 2":            {Domains: []api.Expr{{Kind: api.Bool, N: 2}}},
		"no sign":                {Domains: []api.Expr{{Kind: api.Op, Text: "%", Kids: []api.Expr{unit, unit}}}},
		"a row too long":         {Decls: []api.Decl{{Kind: api.Row, Name: "v", N: 9, At: 1}}, Domains: []api.Expr{unit}},
		"a declaration's kind":   {Decls: []api.Decl{{Kind: 4, Name: "v", N: 1, At: 1}}, Domains: []api.Expr{unit}},
		"a declaration unnamed":  {Decls: []api.Decl{{Kind: api.Cell, At: 1}}, Domains: []api.Expr{unit}},
		"nine declarations":      {Decls: make([]api.Decl, 9), Domains: []api.Expr{unit}},
		"a domain too deep":      {Domains: []api.Expr{unit, seqs(61)}},
		"a domain far too deep":  {Domains: []api.Expr{seqs(1 << 16)}},
		"two of one, not formed": {Decls: []api.Decl{good.Decls[0], good.Decls[0]}, Domains: []api.Expr{{At: 7}}},
	} {
		wantOf(t, p, api.ErrForm, 0, what)
		if show.Formed(p) {
			t.Error(what, "is formed")
		}
	}
	wantOf(t, api.Program{Domains: []api.Expr{seqs(60)}}, api.OK, 0, "as deep as may be")
}

// seqs of unit, so deep.
func seqs(depth int) api.Expr {
	e := api.Expr{Kind: api.Unit}
	for range depth - 1 {
		e = api.Expr{Kind: api.Seq, Kids: []api.Expr{{Kind: api.Unit}, e}}
	}
	return e
}

// P7.1, 2: names.

func TestTwoDeclarations(t *testing.T) {
	kinds := []string{"cell $ = 1", "atom $ = 1", "row $ 2"}
	of := func(kind, name string) string { return strings.Replace(kind, "$", name, 1) + " " }
	for _, a := range kinds {
		for _, b := range kinds {
			want(t, of(a, "x")+"@"+of(b, "x")+"domain () end", api.ErrName)
			want(t, of(a, "x")+of(b, "xx")+of(a, "y")+"domain () end", api.OK)
			want(t, of(a, "x")+of(b, "y")+"@"+of(a, "x")+"domain () end", api.ErrName)
			want(t, of(a, "x")+of(b, "y")+"@"+of(b, "y")+of(a, "x")+"domain () end", api.ErrName)
			want(t, of(a, "x")+of(b, "y")+"@"+of(b, "x")+of(a, "y")+"domain () end", api.ErrName)
			want(t, of(a, "x")+"@"+of(b, "x")+of(a, "x")+"domain () end", api.ErrName)
			want(t, of(a, "p")+of(b, "q")+of(b, "r")+of(b, "s")+"@"+of(b, "q")+of(b, "p")+"domain () end", api.ErrName)
		}
	}
	wantAll(t, api.OK, "domain () end", "cell a = 0 cell b = 0 atom c = 0 row d 1 cell e = 0 cell f = 0 cell g = 0 cell h = 0 domain () end")
	wantAll(t, api.ErrName, "cell a = 0 cell b = 0 atom c = 0 row d 1 cell e = 0 cell f = 0 cell g = 0 @cell a = 0 domain () end", "cell a = 0 cell b = 0 atom c = 0 row d 1 cell e = 0 cell f = 0 cell g = 0 @row g 3 domain () end")
}

// locations: what may be done to locations, whether a cell's, an atom's, a row's name will do, and what is told.
var locations = []struct {
	text            string
	cell, atom, row bool
	own             *ty
}{
	{"!x", true, true, false, tInt},
	{"x := 1", true, true, false, tUnit},
	{"x.[1]", false, false, true, tInt},
	{"x.[1] <- 2", false, false, true, tUnit},
	{"swap x 1", false, true, false, tInt},
	{"add x 1", false, true, false, tInt},
	{"cas x 1 2", false, true, false, tBool},
}

func TestLocations(t *testing.T) {
	for _, l := range locations {
		for decls, ok := range map[string]bool{
			"cell x = 0 ": l.cell, "atom x = 0 ": l.atom, "row x 3 ": l.row, "": false,
			"cell y = 0 cell x = 0 ": l.cell, "row y 1 atom x = 0 ": l.atom, "atom y = 0 row x 2 cell z = 0 ": l.row,
			"cell y = 0 ": false, "atom y = 0 ": false, "row y 3 ": false, "cell xx = 0 atom y = 0 row z 3 ": false,
		} {
			// Whatever values have that name, with whatever types.
			for _, around := range []string{"$", "let x = 1 in ($)", "let x = true in ($)", "(fun x -> $) ()", "match some () with none -> () | some x -> ($)", "match (1, 2) with (y, x) -> ($)"} {
				e := api.OK
				text := decls + "domain " + strings.Replace(around, "$", l.own.use("(@"+l.text+")"), 1) + " end"
				if ok {
					text = strings.Replace(text, "@", "", 1)
				} else {
					e = api.ErrName
				}
				want(t, text, e)
			}
		}
	}
}

func TestNames(t *testing.T) {
	wantAll(t, api.OK,
		"domain let x = 1 in print x end",
		"domain let x = 1 in let y = x in print (x + y) end",
		"domain let x = 1 in let x = x + 1 in print x end",
		"domain let f = fun n -> print n in f 1 end",
		"domain let f = fun n -> fun m -> n + m in print (f 1 2) end",
		"domain match some 1 with none -> () | some n -> print n end",
		"domain let n = 1 in match some n with none -> print n | some m -> print (n + m) end",
		"domain match (1, 2) with (a, b) -> print (a + b) end",
		"domain match (1, (2, 3)) with (a, b) -> match b with (c, d) -> print (a + c + d) end",
		"cell x = 0 domain let x = true in (x := 1; print !x; if x then () else ()) end",
		"row x 3 domain let x = 1 in x.[x] <- x.[x + x] end",
		"atom x = 0 domain let x = 1 in print (swap x x + add x x); if cas x x x then x := x else () end",
		"cell x = 0 domain match (true, 1) with (x, y) -> (x := y; if x then () else print !x) end",
	)
	wantAll(t, api.ErrName,
		"domain print @x end", "domain @x end", "domain @x x end", "cell x = 0 domain print @x end", "atom x = 0 domain print @x end", "row x 1 domain print @x end",
		"domain let x = @x in () end", "domain let x = 1 + @x in print x end", "domain let x = fun n -> @x n in () end",
		"domain let x = 1 in print @y end", "domain let x = let y = 1 in y in print @y end", "domain (let x = 1 in print x); print @x end", "domain print @x; let x = 1 in print x end", "domain if true then let x = 1 in print x else print @x end",
		"domain let f = fun n -> n in print (f @n) end", "domain let f = fun n -> @m in () end", "domain (fun n -> print n) @n end", "domain @n (fun n -> n) end", "domain let f = fun n -> (fun m -> m) @m in () end", "domain let f = fun n -> @f n in () end",
		"domain match some 1 with none -> print @n | some n -> print n end", "domain match some 1 with some n -> print n | none -> print @n end", "domain match some @n with none -> () | some n -> print n end", "domain (match some 1 with none -> () | some n -> print n); print @n end", "domain match some 1 with none -> () | some n -> print @m end",
		"domain match (@a, 2) with (a, b) -> () end", "domain match (1, @b) with (a, b) -> () end", "domain (match (1, 2) with (a, b) -> ()); print @a end", "domain (match (1, 2) with (a, b) -> ()); print @b end", "domain match (1, 2) with (a, b) -> print @c end", "domain match (match (1, 2) with (a, b) -> (a, @c)) with (c, d) -> () end",
		"domain let x = 1 in () end domain print @x end", "domain print @x end domain let x = 1 in () end", "domain let abc = 1 in print @ab end", "domain let ab = 1 in print @abc end",
	)
}

func TestInnerNames(t *testing.T) {
	for inner, outer := range map[string]string{
		"let n = true in $":                             "let n = 1 in $",
		"(fun n -> $) true":                             "(fun n -> $) 1",
		"match some true with none -> () | some n -> $": "match some 1 with none -> () | some n -> $",
		"match (true, 1) with (n, m) -> $":              "match (1, true) with (n, m) -> $",
		"match (1, true) with (m, n) -> $":              "match (true, 1) with (m, n) -> $",
		"match (1, true) with (n, n) -> $":              "match (true, 1) with (n, n) -> $",
	} {
		for _, other := range []string{"let n = 1 in $", "(fun n -> $) 1", "match some 1 with none -> () | some n -> $", "match (1, true) with (n, m) -> $", "match (true, 1) with (n, n) -> $", "match (true, 1) with (m, n) -> $"} {
			within := func(a, b, c string) string {
				return strings.Replace(a, "$", "("+strings.Replace(b, "$", c, 1)+")", 1)
			}
			asBool, asInt := "if n then () else ()", "print n"
			for text, e := range map[string]api.Errno{
				within(other, inner, asBool):                                 api.OK,
				within(other, inner, asInt):                                  api.ErrType,
				within(inner, other, asInt):                                  api.OK,
				within(inner, other, asBool):                                 api.ErrType,
				within(other, outer, asInt):                                  api.OK,
				within(other, "("+within("$", inner, asBool)+"); $", asInt):  api.OK,
				within(other, "("+within("$", inner, asBool)+"); $", asBool): api.ErrType,
				within(inner, "("+within("$", other, asInt)+"); $", asBool):  api.OK,
				within(inner, "("+within("$", other, asInt)+"); $", asInt):   api.ErrType,
			} {
				text = "domain " + text + " end"
				if e != api.OK {
					text = strings.Replace(text, "domain ", "domain @", 1)
				}
				want(t, text, e)
			}
		}
	}
	wantAll(t, api.OK,
		"domain let n = true in match some 1 with none -> if n then () else () | some n -> print n end",
		"domain let n = (true, 1) in match n with (m, n) -> if m then () else print n end",
		"domain let n = some 1 in match n with none -> () | some n -> print n end",
		"domain let n = 1 in let n = n < 2 in if n then () else () end",
	)
	wantAll(t, api.ErrType,
		"domain @let n = true in match some 1 with none -> print n | some n -> print n end",
		"domain @let n = 1 in let n = n < 2 in print n end",
		"domain @match ((), 1) with (a, a) -> a end",
	)
	want(t, "domain match (1, ()) with (a, a) -> a end", api.OK)
}

// P7.1, 3: matches that lack an arm.

func TestArms(t *testing.T) {
	wantAll(t, api.OK, "domain match none with none -> () | some n -> () end", "domain match some 1 with some n -> () | none -> () end")
	wantAll(t, api.ErrMatch,
		"domain @match none with none -> () end", "domain @match none with some n -> () end", "domain print (@match some 1 with some n -> n) end",
		"domain let f = fun o -> @match o with none -> 1 in () end", "domain match none with none -> () | some n -> @match n with none -> () end", "domain match none with some n -> () | none -> @match none with some n -> n end",
		"domain match (@match none with none -> none) with none -> () | some n -> () end", "domain @match (match none with none -> none) with none -> () end", "domain @match none with none -> match none with none -> () end",
		"domain () end domain @match none with none -> () end", "domain @match none with none -> () end domain match none with none -> () end",
		"domain match (1, none) with (a, b) -> @match b with some c -> () end", "domain (@match none with none -> ()); match none with none -> () end",
	)
	// A match of pairs has one arm, and lacks none.
	want(t, "domain match (1, 2) with (a, b) -> () end", api.OK)
}

// P7.1: which error is told, and which of its places.

// faulty: what a domain may be, with @ at the place of its fault.
var faulty = []struct {
	text string
	e    api.Errno
}{
	{"()", api.OK},
	{"let n = 1 in print n", api.OK},
	{"print @n", api.ErrName},
	{"let m = 1 in (@x := m; print n)", api.ErrName},
	{"@match none with none -> ()", api.ErrMatch},
	{"let n = true in print (@match none with some m -> m)", api.ErrMatch},
	{"match none with none -> () | some n -> print @k", api.ErrName},
	{"match none with none -> print @n", api.ErrName},
	{"match none with none -> 1; print @n", api.ErrName},
	{"(match none with none -> 1); if print 2 then 1 else 2 + @n", api.ErrName},
	{"1; @match none with none -> ()", api.ErrMatch},
	{"@1", api.ErrType},
	{"@print (print 1)", api.ErrType},
	{"@let f = fun n -> n n in ()", api.ErrType},
}

func TestWhichError(t *testing.T) {
	rank := map[api.Errno]int{api.OK: 9, api.ErrName: 1, api.ErrMatch: 2, api.ErrType: 3}
	for _, decls := range []string{"", "cell y = 0 ", "cell y = 0 @row y 2 "} {
		for _, a := range faulty {
			for _, b := range faulty {
				for _, c := range faulty {
					text, e, at := "", api.OK, 0
					add := func(s string, fault api.Errno) {
						ahead, behind, _ := strings.Cut(s, "@")
						if rank[fault] < rank[e] {
							e, at = fault, len(text)+len(ahead)
						}
						text += ahead + behind
					}
					if strings.Contains(decls, "@") {
						add(decls, api.ErrName)
					} else {
						add(decls, api.OK)
					}
					for _, d := range []struct {
						text string
						e    api.Errno
					}{a, b, c} {
						add("domain "+d.text+" end ", d.e)
					}
					p := program(t, text)
					wantOf(t, p, e, at, text)
					// What is not formed is told ahead of all.
					p.Domains[2].Other = "x"
					wantOf(t, p, api.ErrForm, 0, text+" (not formed)")
				}
			}
		}
	}
}

func TestWhichPlace(t *testing.T) {
	wantAll(t, api.ErrName,
		"domain @x := y end", "cell x = 0 domain x := @y + z end", "domain @x.[y] <- z end", "row x 1 domain x.[@y] <- z end", "row x 1 domain x.[0] <- @z end", "domain print @x.[y] end", "row x 1 domain print x.[@y] end",
		"domain print (@swap x y) end", "atom x = 0 domain print (swap x @y) end", "domain print (@add x y) end", "atom x = 0 domain print (add x @y) end",
		"domain if @cas x y z then () else () end", "atom x = 0 domain if cas x @y z then () else () end", "atom x = 0 domain if cas x 1 @z then () else () end",
		"domain let a = @b in c end", "domain let a = 1 in (@c; d) end", "domain if @a then b else c end", "domain if true then @b else c end", "domain if true then () else @c end", "domain @a b end", "domain (fun a -> a) @b end", "domain @a; b end", "domain (); @b end",
		"domain print @a; print !b end", "domain print @!b; print a end", "domain print @a + b end", "domain print 1 + @b end", "domain print (1 - @b * c) end", "domain if @a < b then () else () end", "domain if 1 = @b then () else () end", "domain let p = (@a, b) in () end", "domain let p = (1, @b) in () end", "domain let p = some @a in c end",
		"domain match @a with none -> b | some c -> d end", "domain match none with none -> @b | some c -> d end", "domain match none with some c -> d | none -> @b end", "domain match none with none -> () | some c -> @d end", "domain match @a with (b, c) -> d end", "domain match (1, 2) with (b, c) -> @d end",
		"cell y = 0 @cell y = 0 domain print x end", "cell y = 0 @cell y = 0 cell x = 0 cell x = 0 domain () end", "domain () end domain print @x end domain print y end", "domain 1 end domain print @x end",
		"domain match none with none -> print @x end", "domain print @x; match none with none -> () end", "domain (match none with none -> ()); print @x end", "domain match none with none -> () end domain print @x end", "domain print true end domain match none with none -> () end domain @x end",
	)
	wantAll(t, api.ErrMatch,
		"domain print true end domain @match none with none -> () end", "domain (@match none with none -> 1); true end domain 1 end", "domain 1; @match none with none -> () end", "domain () end domain () end domain @match 1 with some n -> n end",
		"domain if true then @match 1 with none -> () else match 1 with none -> () end", "domain (@match 1 with none -> ()) (match 1 with none -> ()) end",
	)
	wantAll(t, api.ErrType, "domain @1 end domain 1 end", "domain () end domain @1 end domain true end", "domain () end domain () end domain @1 end", "domain @(); 1; () end")
	wantAll(t, api.OK, "domain () end domain () end domain () end", "domain print 1 end domain () end")
}

// moved: the same program with other places.
func moved(p api.Program, to func(int) int) api.Program {
	var out api.Program
	for _, d := range p.Decls {
		d.At = to(d.At)
		out.Decls = append(out.Decls, d)
	}
	for _, e := range p.Domains {
		out.Domains = append(out.Domains, movedExpr(e, to))
	}
	return out
}

func movedExpr(e api.Expr, to func(int) int) api.Expr {
	kids := e.Kids
	e.At, e.Kids = to(e.At), nil
	for _, k := range kids {
		e.Kids = append(e.Kids, movedExpr(k, to))
	}
	return e
}

func TestAnyPlaces(t *testing.T) {
	for i, to := range []func(int) int{
		func(int) int { return 0 }, func(int) int { return 7 }, func(int) int { return math.MinInt }, func(int) int { return math.MaxInt },
		func(at int) int { return -at }, func(at int) int { return 1000 - 3*at }, func(at int) int { return at + 1<<40 }, func(at int) int { return math.MinInt + at },
	} {
		for _, c := range faulty {
			ahead, behind, found := strings.Cut("cell q = 0 domain () end domain "+c.text+" end", "@")
			at := 0
			if found {
				at = to(len(ahead))
			}
			wantOf(t, moved(program(t, ahead+behind), to), c.e, at, c.text+", "+strconv.Itoa(i))
		}
		wantOf(t, moved(program(t, "cell q = 0 cell q = 1 domain () end"), to), api.ErrName, to(11), "two of one name, "+strconv.Itoa(i))
		p := moved(program(t, "cell q = 0 cell q = 1 domain 1 end"), to)
		p.Domains[0].Other = "x"
		wantOf(t, p, api.ErrForm, 0, "not formed, "+strconv.Itoa(i))
	}
}

// Rules 3 and 4: what is handed in is left as it is, its spare room too, and what is asked again is answered again.

// roomy: the same program, with room to spare in each list that holds something else.
func roomy(p api.Program) api.Program {
	out := api.Program{Decls: make([]api.Decl, 0, len(p.Decls)+2), Domains: roomyExprs(p.Domains)}
	out.Decls = append(out.Decls, p.Decls...)
	_ = append(out.Decls, api.Decl{Kind: 3, Name: "q", N: 2, At: 9}, api.Decl{Kind: 1, Name: "w", N: 4, At: 8})
	return out
}

func roomyExprs(l []api.Expr) []api.Expr {
	out := make([]api.Expr, 0, len(l)+2)
	for _, e := range l {
		e.Kids = roomyExprs(e.Kids)
		out = append(out, e)
	}
	_ = append(out, api.Expr{Kind: api.Num, N: 5, At: 6}, api.Expr{Kind: api.Name, Text: "spare"})
	return out
}

// whole: a program with all that stands in its lists' spare room.
func whole(p api.Program) api.Program {
	return api.Program{Decls: append([]api.Decl{}, p.Decls[:cap(p.Decls)]...), Domains: wholeExprs(p.Domains)}
}

func wholeExprs(l []api.Expr) []api.Expr {
	out := append([]api.Expr{}, l[:cap(l)]...)
	for i, e := range out {
		if e.Kids != nil {
			out[i].Kids = wholeExprs(e.Kids)
		}
	}
	return out
}

func TestLeavesItsArgument(t *testing.T) {
	for _, c := range faulty {
		text := "cell q = 0 atom x1 = 2 domain " + strings.Replace(c.text, "@", "", 1) + " end domain let f = fun o -> match o with none -> none | some n -> some (n, true) in match f (some 1) with none -> () | some p -> match p with (a, b) -> if b then q := add x1 a else () end"
		p := roomy(program(t, text))
		before := whole(p)
		e, at := Check(p)
		if !reflect.DeepEqual(before, whole(p)) {
			t.Errorf("%s is changed", text)
		}
		for range 3 {
			wantOf(t, p, e, at, text)
			wantOf(t, api.Program{Domains: []api.Expr{{Kind: api.Num, At: 3}}}, api.ErrType, 3, "1")
		}
		if e != c.e {
			t.Errorf("%s: %d", text, e)
		}
	}
}
