package parse

import (
	"reflect"
	"strconv"
	"strings"
	"testing"

	"selvage/api"
	"selvage/lex"
)

func kindName(kind int) string {
	names := strings.Fields("? Num Bool Unit Name Let If Fun App Seq Load Store At Put Swap Inc Cas Tell None Some Pair Op Less Same Opt Two")
	if kind < 1 || kind >= len(names) {
		return "?" + strconv.Itoa(kind)
	}
	return names[kind]
}

// tell an expression with all that it has: kind, place, texts, number, kids.
func tell(e api.Expr) string {
	var b strings.Builder
	b.WriteString("(" + kindName(e.Kind) + "@" + strconv.Itoa(e.At))
	for _, s := range []string{e.Text, e.Other} {
		if s != "" {
			b.WriteString(" " + s)
		}
	}
	if e.N != 0 {
		b.WriteString(" #" + strconv.Itoa(e.N))
	}
	for _, k := range e.Kids {
		b.WriteString(" " + tell(k))
	}
	return b.String() + ")"
}

func short(s string) string {
	if len(s) > 90 {
		return strconv.Quote(s[:90]) + ".. of " + strconv.Itoa(len(s)) + " bytes"
	}
	return strconv.Quote(s)
}

// wantDomain: the text between domain and end is this expression; its places count from that text's beginning.
func wantDomain(t *testing.T, text, want string) {
	t.Helper()
	p, e, at := Parse("domain\t" + text + " end")
	if e != api.OK || at != 0 || len(p.Decls) != 0 || len(p.Domains) != 1 {
		t.Errorf("%s: %v, %d, %d", short(text), p, e, at)
		return
	}
	if got := tell(moved(p.Domains[0], -7)); got != want {
		t.Errorf("%s:\n%s, not\n%s", short(text), got, want)
	}
}

// moved: the same expression, each place so much further on.
func moved(e api.Expr, by int) api.Expr {
	out := e
	out.At += by
	out.Kids = nil
	for _, k := range e.Kids {
		out.Kids = append(out.Kids, moved(k, by))
	}
	return out
}

// wantFault: the text has this error at this place, and no program.
func wantFault(t *testing.T, text string, fault api.Errno, place int) {
	t.Helper()
	p, e, at := Parse(text)
	if e != fault || at != place || len(p.Decls) != 0 || len(p.Domains) != 0 {
		t.Errorf("%s: %v, %d, %d, not %d, %d", short(text), p, e, at, fault, place)
	}
}

func wantOK(t *testing.T, text string) api.Program {
	t.Helper()
	p, e, at := Parse(text)
	if e != api.OK || at != 0 || len(p.Domains) == 0 {
		t.Errorf("%s: %v, %d, %d, not OK", short(text), p, e, at)
	}
	return p
}

// P5.1: ordinary programs.

func TestDeclarations(t *testing.T) {
	p := wantOK(t, "cell x = 0 atom a=7 row v 4 cell y = -5\natom b = - 999999999 row w 1 cell z = 999999999 cell x =-0 domain 1 end")
	want := []api.Decl{
		{Kind: api.Cell, Name: "x", At: 0}, {Kind: api.Atom, Name: "a", N: 7, At: 11}, {Kind: api.Row, Name: "v", N: 4, At: 20}, {Kind: api.Cell, Name: "y", N: -5, At: 28},
		{Kind: api.Atom, Name: "b", N: -999999999, At: 40}, {Kind: api.Row, Name: "w", N: 1, At: 61}, {Kind: api.Cell, Name: "z", N: 999999999, At: 69}, {Kind: api.Cell, Name: "x", At: 88}}
	if !reflect.DeepEqual(p.Decls, want) {
		t.Error(p.Decls)
	}
	if len(p.Domains) != 1 || tell(p.Domains[0]) != "(Num@106 #1)" {
		t.Error(p.Domains)
	}
}

func TestDomains(t *testing.T) {
	p := wantOK(t, "domain 1 end domain x end domain () end")
	if len(p.Decls) != 0 || len(p.Domains) != 3 || tell(p.Domains[0]) != "(Num@7 #1)" || tell(p.Domains[1]) != "(Name@20 x)" || tell(p.Domains[2]) != "(Unit@33)" {
		t.Error(p)
	}
	p = wantOK(t, "domain x := 1; !x end")
	if len(p.Decls) != 0 || len(p.Domains) != 1 || tell(p.Domains[0]) != "(Seq@7 (Store@7 x (Num@12 #1)) (Load@15 x))" {
		t.Error(p)
	}
}

func TestEachExpression(t *testing.T) {
	for text, want := range map[string]string{
		"0":                        "(Num@0)",
		"999999999":                "(Num@0 #999999999)",
		"true":                     "(Bool@0 #1)",
		"false":                    "(Bool@0)",
		"()":                       "(Unit@0)",
		"( )":                      "(Unit@0)",
		"x":                        "(Name@0 x)",
		"none":                     "(None@0)",
		"some 1":                   "(Some@0 (Num@5 #1))",
		"some some none":           "(Some@0 (Some@5 (None@10)))",
		"!x":                       "(Load@0 x)",
		"! x":                      "(Load@0 x)",
		"print 1":                  "(Tell@0 (Num@6 #1))",
		"print print x":            "(Tell@0 (Tell@6 (Name@12 x)))",
		"swap a 1":                 "(Swap@0 a (Num@7 #1))",
		"add a !x":                 "(Inc@0 a (Load@6 x))",
		"cas a 1 2":                "(Cas@0 a (Num@6 #1) (Num@8 #2))",
		"cas a swap b 1 print 2":   "(Cas@0 a (Swap@6 b (Num@13 #1)) (Tell@15 (Num@21 #2)))",
		"v.[2]":                    "(At@0 v (Num@3 #2))",
		"v.[x := 1]":               "(At@0 v (Store@3 x (Num@8 #1)))",
		"v.[w.[0]]":                "(At@0 v (At@3 w (Num@6)))",
		"v.[1] <- 2":               "(Put@0 v (Num@3 #1) (Num@9 #2))",
		"v.[1] <- w.[2] <- 3":      "(Put@0 v (Num@3 #1) (Put@9 w (Num@12 #2) (Num@18 #3)))",
		"x := 1":                   "(Store@0 x (Num@5 #1))",
		"x := y := 1":              "(Store@0 x (Store@5 y (Num@10 #1)))",
		"(1, 2)":                   "(Pair@0 (Num@1 #1) (Num@4 #2))",
		"(x; 1, y; 2)":             "(Pair@0 (Seq@1 (Name@1 x) (Num@4 #1)) (Seq@7 (Name@7 y) (Num@10 #2)))",
		"let x = 1 in x":           "(Let@0 x (Num@8 #1) (Name@13 x))",
		"let x = y = 1 in x = 2":   "(Let@0 x (Same@8 (Name@8 y) (Num@12 #1)) (Same@17 (Name@17 x) (Num@21 #2)))",
		"if 1 then 2 else 3":       "(If@0 (Num@3 #1) (Num@10 #2) (Num@17 #3))",
		"fun x -> x":               "(Fun@0 x (Name@9 x))",
		"fun x -> fun y -> x y":    "(Fun@0 x (Fun@9 y (App@18 (Name@18 x) (Name@20 y))))",
		"f x":                      "(App@0 (Name@0 f) (Name@2 x))",
		"1; 2":                     "(Seq@0 (Num@0 #1) (Num@3 #2))",
		"1; 2; 3":                  "(Seq@0 (Num@0 #1) (Seq@3 (Num@3 #2) (Num@6 #3)))",
		"1 + 2":                    "(Op@0 + (Num@0 #1) (Num@4 #2))",
		"1 - 2":                    "(Op@0 - (Num@0 #1) (Num@4 #2))",
		"1 * 2":                    "(Op@0 * (Num@0 #1) (Num@4 #2))",
		"1 / 2":                    "(Op@0 / (Num@0 #1) (Num@4 #2))",
		"1 < 2":                    "(Less@0 (Num@0 #1) (Num@4 #2))",
		"1 = 2":                    "(Same@0 (Num@0 #1) (Num@4 #2))",
		"match x with (a, b) -> a": "(Two@0 a b (Name@6 x) (Name@23 a))",
		"match x with (a, a) -> 1": "(Two@0 a a (Name@6 x) (Num@23 #1))",
	} {
		wantDomain(t, text, want)
	}
}

// What stands to the left, and what binds its parts more than another.
func TestToTheLeft(t *testing.T) {
	for text, want := range map[string]string{
		"1 - 2 - 3":                           "(Op@0 - (Op@0 - (Num@0 #1) (Num@4 #2)) (Num@8 #3))",
		"1 - (2 - 3)":                         "(Op@0 - (Num@0 #1) (Op@5 - (Num@5 #2) (Num@9 #3)))",
		"1 + 2 - 3 + 4":                       "(Op@0 + (Op@0 - (Op@0 + (Num@0 #1) (Num@4 #2)) (Num@8 #3)) (Num@12 #4))",
		"8 / 4 * 2":                           "(Op@0 * (Op@0 / (Num@0 #8) (Num@4 #4)) (Num@8 #2))",
		"1 + 2 * 3":                           "(Op@0 + (Num@0 #1) (Op@4 * (Num@4 #2) (Num@8 #3)))",
		"1 * 2 + 3":                           "(Op@0 + (Op@0 * (Num@0 #1) (Num@4 #2)) (Num@8 #3))",
		"f x y":                               "(App@0 (App@0 (Name@0 f) (Name@2 x)) (Name@4 y))",
		"f (x y)":                             "(App@0 (Name@0 f) (App@3 (Name@3 x) (Name@5 y)))",
		"f x * g y":                           "(Op@0 * (App@0 (Name@0 f) (Name@2 x)) (App@6 (Name@6 g) (Name@8 y)))",
		"print f x":                           "(App@0 (Tell@0 (Name@6 f)) (Name@8 x))",
		"f print x":                           "(App@0 (Name@0 f) (Tell@2 (Name@8 x)))",
		"some f x":                            "(App@0 (Some@0 (Name@5 f)) (Name@7 x))",
		"!f x":                                "(App@0 (Load@0 f) (Name@3 x))",
		"f !x":                                "(App@0 (Name@0 f) (Load@2 x))",
		"f v.[1] 2":                           "(App@0 (App@0 (Name@0 f) (At@2 v (Num@5 #1))) (Num@8 #2))",
		"cas a 1 2 3":                         "(App@0 (Cas@0 a (Num@6 #1) (Num@8 #2)) (Num@10 #3))",
		"v.[1] + 2":                           "(Op@0 + (At@0 v (Num@3 #1)) (Num@8 #2))",
		"v.[1] f":                             "(App@0 (At@0 v (Num@3 #1)) (Name@6 f))",
		"1 + 2 < 3 * 4":                       "(Less@0 (Op@0 + (Num@0 #1) (Num@4 #2)) (Op@8 * (Num@8 #3) (Num@12 #4)))",
		"x = y + 1":                           "(Same@0 (Name@0 x) (Op@4 + (Name@4 y) (Num@8 #1)))",
		"x := 1; y := 2":                      "(Seq@0 (Store@0 x (Num@5 #1)) (Store@8 y (Num@13 #2)))",
		"fun x -> 1; 2":                       "(Seq@0 (Fun@0 x (Num@9 #1)) (Num@12 #2))",
		"fun x -> 1 + x":                      "(Fun@0 x (Op@9 + (Num@9 #1) (Name@13 x)))",
		"x := 1 < 2":                          "(Store@0 x (Less@5 (Num@5 #1) (Num@9 #2)))",
		"let x = 1 in 2;3":                    "(Let@0 x (Num@8 #1) (Seq@13 (Num@13 #2) (Num@15 #3)))",
		"(let x = 1 in 2);3":                  "(Seq@0 (Let@1 x (Num@9 #1) (Num@14 #2)) (Num@17 #3))",
		"x := let x = 1 in 2;3":               "(Store@0 x (Let@5 x (Num@13 #1) (Seq@18 (Num@18 #2) (Num@20 #3))))",
		"if 1 then let x = 2 in 3;4 else 5;6": "(Seq@0 (If@0 (Num@3 #1) (Let@10 x (Num@18 #2) (Seq@23 (Num@23 #3) (Num@25 #4))) (Num@32 #5)) (Num@34 #6))",
	} {
		wantDomain(t, text, want)
	}
}

// Parentheses make no expression; but what begins with one stands there, if it is more than what is in them.
func TestPlacesOfParentheses(t *testing.T) {
	for text, want := range map[string]string{
		"(1)":            "(Num@1 #1)",
		"(((x)))":        "(Name@3 x)",
		"(1) + 2":        "(Op@0 + (Num@1 #1) (Num@6 #2))",
		"((1)) * (2)":    "(Op@0 * (Num@2 #1) (Num@9 #2))",
		"(1 + 2) * 3":    "(Op@0 * (Op@1 + (Num@1 #1) (Num@5 #2)) (Num@10 #3))",
		"(f) x":          "(App@0 (Name@1 f) (Name@4 x))",
		"(1) < 2":        "(Less@0 (Num@1 #1) (Num@6 #2))",
		"((1)) = 2":      "(Same@0 (Num@2 #1) (Num@8 #2))",
		"(1); 2":         "(Seq@0 (Num@1 #1) (Num@5 #2))",
		"(1; 2)":         "(Seq@1 (Num@1 #1) (Num@4 #2))",
		"((1); 2)":       "(Seq@1 (Num@2 #1) (Num@6 #2))",
		"1; (2); 3":      "(Seq@0 (Num@0 #1) (Seq@3 (Num@4 #2) (Num@8 #3)))",
		"((1; 2); 3)":    "(Seq@1 (Seq@2 (Num@2 #1) (Num@5 #2)) (Num@9 #3))",
		"((1), (2))":     "(Pair@0 (Num@2 #1) (Num@7 #2))",
		"((1, 2))":       "(Pair@1 (Num@2 #1) (Num@5 #2))",
		"(())":           "(Unit@1)",
		"print (1)":      "(Tell@0 (Num@7 #1))",
		"(fun x -> x) 1": "(App@0 (Fun@1 x (Name@10 x)) (Num@13 #1))",
		"(f) x (y)":      "(App@0 (App@0 (Name@1 f) (Name@4 x)) (Name@7 y))",
		"(f 1) 2":        "(App@0 (App@1 (Name@1 f) (Num@3 #1)) (Num@6 #2))",
		"(1) - (2) - 3":  "(Op@0 - (Op@0 - (Num@1 #1) (Num@7 #2)) (Num@12 #3))",
		"1 + (2) * 3":    "(Op@0 + (Num@0 #1) (Op@4 * (Num@5 #2) (Num@10 #3)))",
		"1 - (f) x":      "(Op@0 - (Num@0 #1) (App@4 (Name@5 f) (Name@8 x)))",
		"1 < (2) + 3":    "(Less@0 (Num@0 #1) (Op@4 + (Num@5 #2) (Num@10 #3)))",
		"1 = (f) x":      "(Same@0 (Num@0 #1) (App@4 (Name@5 f) (Name@8 x)))",
		"((1) + 2) < 3":  "(Less@0 (Op@1 + (Num@2 #1) (Num@7 #2)) (Num@12 #3))",
		"x := (1) + 2":   "(Store@0 x (Op@5 + (Num@6 #1) (Num@11 #2)))",
		"(x := 1)":       "(Store@1 x (Num@6 #1))",
	} {
		wantDomain(t, text, want)
	}
}

func TestMatches(t *testing.T) {
	for text, want := range map[string]string{
		"match x with none -> 1":               "(Opt@0 #1 (Name@6 x) (Num@21 #1) (Unit@0))",
		"match x with some y -> 2":             "(Opt@0 y #2 (Name@6 x) (Unit@0) (Num@23 #2))",
		"match x with none -> 1 | some y -> 2": "(Opt@0 y #3 (Name@6 x) (Num@21 #1) (Num@35 #2))",
		"match x with some y -> 2 | none -> 1": "(Opt@0 y #3 (Name@6 x) (Num@35 #1) (Num@23 #2))",
		"(match x with none -> 1)":             "(Opt@1 #1 (Name@7 x) (Num@22 #1) (Unit@1))",
		"1 + (match x with some y -> 2)":       "(Op@0 + (Num@0 #1) (Opt@5 y #2 (Name@11 x) (Unit@5) (Num@28 #2)))",
		"match x with none -> 1; 2":            "(Seq@0 (Opt@0 #1 (Name@6 x) (Num@21 #1) (Unit@0)) (Num@24 #2))",
		"match f x < 1 with (a, b) -> a + b":   "(Two@0 a b (Less@6 (App@6 (Name@6 f) (Name@8 x)) (Num@12 #1)) (Op@29 + (Name@29 a) (Name@33 b)))",
	} {
		wantDomain(t, text, want)
	}
}

// A | is of the innermost match that isn't whole: behind one arm, behind two, behind an arm of pairs.
func TestInnermostMatch(t *testing.T) {
	const x, y = "match x with ", "match y with "
	one := func(m, kids string) string { return "(Opt@" + m + " " + kids + ")" }
	for text, want := range map[string]string{
		// The inner one takes it, and the outer one has one arm.
		x + "none -> " + y + "none -> 1 | some z -> 2": one("0", "#1 (Name@6 x) "+one("21", "z #3 (Name@27 y) (Num@42 #1) (Num@56 #2)")+" (Unit@0)"),
		x + "none -> " + y + "some z -> 1 | none -> 2": one("0", "#1 (Name@6 x) "+one("21", "z #3 (Name@27 y) (Num@56 #2) (Num@44 #1)")+" (Unit@0)"),
		// The inner one has two already.
		x + "none -> " + y + "none -> 1 | some z -> 2 | some w -> 3": one("0", "w #3 (Name@6 x) "+one("21", "z #3 (Name@27 y) (Num@42 #1) (Num@56 #2)")+" (Num@70 #3)"),
		// The inner one is of pairs, or in parentheses.
		x + "none -> " + y + "(a, b) -> 1 | some w -> 3": one("0", "w #3 (Name@6 x) (Two@21 a b (Name@27 y) (Num@44 #1)) (Num@58 #3)"),
		x + "none -> (" + y + "none -> 1) | some w -> 3": one("0", "w #3 (Name@6 x) "+one("22", "#1 (Name@28 y) (Num@43 #1) (Unit@22)")+" (Num@58 #3)"),
		// The inner one is the second arm of the outer one.
		x + "none -> 1 | some w -> " + y + "some z -> 2 | none -> 3": one("0", "w #3 (Name@6 x) (Num@21 #1) "+one("35", "z #3 (Name@41 y) (Num@70 #3) (Num@58 #2)")),
		// The inner one ended ahead of a then, an else, an in, a ;.
		x + "none -> if " + y + "none -> 1 then 2 else 3 | some w -> 4": one("0", "w #3 (Name@6 x) (If@21 "+one("24", "#1 (Name@30 y) (Num@45 #1) (Unit@24)")+" (Num@52 #2) (Num@59 #3)) (Num@73 #4)"),
		x + "none -> let a = " + y + "none -> 1 in 2 | some w -> 4":     one("0", "w #3 (Name@6 x) (Let@21 a "+one("29", "#1 (Name@35 y) (Num@50 #1) (Unit@29)")+" (Num@55 #2)) (Num@69 #4)"),
		x + "none -> let a = 0 in " + y + "none -> 1; 2 | some w -> 4":  one("0", "w #3 (Name@6 x) (Let@21 a (Num@29) (Seq@34 "+one("34", "#1 (Name@40 y) (Num@55 #1) (Unit@34)")+" (Num@58 #2))) (Num@72 #4)"),
		// The inner one stands at the end of a fun, an else, a :=, a let.
		x + "none -> fun a -> " + y + "none -> 1 | some z -> 2":           one("0", "#1 (Name@6 x) (Fun@21 a "+one("30", "z #3 (Name@36 y) (Num@51 #1) (Num@65 #2)")+") (Unit@0)"),
		x + "none -> if a then b else " + y + "none -> 1 | some z -> 2":   one("0", "#1 (Name@6 x) (If@21 (Name@24 a) (Name@31 b) "+one("38", "z #3 (Name@44 y) (Num@59 #1) (Num@73 #2)")+") (Unit@0)"),
		x + "none -> a := " + y + "none -> 1 | some z -> 2 | some w -> 3": one("0", "w #3 (Name@6 x) (Store@21 a "+one("26", "z #3 (Name@32 y) (Num@47 #1) (Num@61 #2)")+") (Num@75 #3)"),
		// Of what it is may be a match too.
		"match match x with none -> 1 with none -> 2 | some w -> 3": one("0", "w #3 "+one("6", "#1 (Name@12 x) (Num@27 #1) (Unit@6)")+" (Num@42 #2) (Num@56 #3)"),
	} {
		wantDomain(t, text, want)
	}
	for text, at := range map[string]int{
		"domain match x with none -> 1 | none -> 2 end":                                   32,
		"domain match x with some y -> 1 | some y -> 2 end":                               34,
		"domain match x with none -> 1 | (a, b) -> 2 end":                                 32,
		"domain match x with (a, b) -> 1 | none -> 2 end":                                 32,
		"domain match x with (a, b) -> 1 | (a, b) -> 2 end":                               32,
		"domain match x with none -> 1 | some y -> 2 | none -> 3 end":                     44,
		"domain match x with some y -> match x with none -> 1 | none -> 2 end":            55,
		"domain match x with none -> (match x with none -> 1) | some y -> 2 | 3 end":      67,
		"domain (match x with none -> 1) | some y -> 2 end":                               32,
		"domain match x with none -> 1; 2 | some y -> 3 end":                              33,
		"domain match x with none -> 1 | some y -> 2; 3 | none -> 4 end":                  47,
		"domain if match x with none -> 1 then 2 else 3 | some y -> 4 end":                47,
		"domain match x with none -> match x with (a, b) -> 1 | some y -> 2 | none 3 end": 67,
		"domain 1 | none -> 2 end":                                                        9,
	} {
		wantFault(t, text, api.ErrParse, at)
	}
}

// P5.1: words that make no program.

func TestTooFew(t *testing.T) {
	const whole = "cell x = - 1 atom a = 2 row v 3 domain let y = !x in if y < 1 then v.[0] <- y else fun z -> match (1, some z) with none -> () | some w -> cas a 1 2; swap a 1 end"
	wantOK(t, whole)
	tokens, _, _ := lex.Tokens(whole)
	for _, w := range tokens {
		for _, behind := range []string{"", " ", " \n\t", "# end", " #\n"} {
			text := whole[:w.At] + behind
			wantFault(t, text, api.ErrParse, len(text))
		}
	}
	for _, text := range []string{"", " ", "#", "# domain 1 end", "\n\n", "cell x = 1", "cell x = 1 atom y = 2 row z 3 ", "row v 8 row w 8", "domain", "domain 1", "domain 1 ", "domain 1 end domain", "domain 1 end domain 1"} {
		wantFault(t, text, api.ErrParse, len(text))
	}
}

func TestNoProgram(t *testing.T) {
	for text, at := range map[string]int{
		"domain end": 7, "domain 1 2 <- 3 end": 11, "domain (a.[0]) <- 3 end": 15, "domain f a.[0] <- 3 end": 15, "domain a.[0] 1 <- 3 end": 15, "domain a <- 3 end": 9,
		"end": 0, "1": 0, "x": 0, ";": 0, "in domain 1 end": 0, "domain domain 1 end end": 7, "domain 1 end end": 13, "domain 1 end 1": 13, "domain 1 end ;": 13,
		"domain 1 end cell x = 1": 13, "domain 1 end row x 9": 13, "domain 1 end 5 domain 1 end": 13, "domain cell x = 1 end": 7, "cell x = 1; domain 1 end": 10,
		"cell 1 = 1 domain 1 end": 5, "cell x 1 domain 1 end": 7, "cell x := 1 domain 1 end": 7, "cell x = y domain 1 end": 9, "cell x = true domain 1 end": 9, "cell x = - - 1 domain 1 end": 11, "cell x = + 1 domain 1 end": 9,
		"cell x = -> 1 domain 1 end": 9, "cell x = 1 + 1 domain 1 end": 11, "cell x = 1 2 domain 1 end": 11, "cell end = 1 domain 1 end": 5, "cell cell = 1 domain 1 end": 5, "cell x = domain 1 end": 9,
		"row x = 1 domain 1 end": 6, "row x - 1 domain 1 end": 6, "row x y domain 1 end": 6, "row 1 domain 1 end": 4, "row x 1 2 domain 1 end": 8, "atom x 1 domain 1 end": 7,
		"domain 1; end": 10, "domain ; 1 end": 7, "domain 1;; 2 end": 9, "domain (1; ) end": 11, "domain 1 in 2 end": 9, "domain let x = 1; 2 in 3 end": 16, "domain let 1 = 1 in 1 end": 11, "domain let x := 1 in 1 end": 13, "domain let let = 1 in 1 end": 11,
		"domain if 1 then 2 end": 19, "domain if 1; 2 then 3 else 4 end": 11, "domain if 1 then 2; 3 else 4 end": 18, "domain if 1 else 2 end": 12, "domain fun 1 -> 1 end": 11, "domain fun x y -> 1 end": 13, "domain fun -> 1 end": 11, "domain fun x = 1 end": 13,
		"domain -1 end": 7, "domain 1 + - 2 end": 11, "domain 1 - - 2 end": 11, "domain 1 + end": 11, "domain * 1 end": 7, "domain 1 * / 2 end": 11, "domain 1 < 2 < 3 end": 13, "domain 1 = 2 = 3 end": 13, "domain 1 < 2 = 3 end": 13, "domain 1 = 2 < 3 end": 13, "domain 1 < - 2 end": 11,
		"domain x := end": 12, "domain f x := 1 end": 11, "domain 1 := 1 end": 9, "domain (x) := 1 end": 11, "domain !x := 1 end": 10, "domain 1 + x := 1 end": 13, "domain x.[0] := 1 end": 13, "domain print x := 1 end": 15,
		"domain x.[] end": 10, "domain x.[1; 2] end": 11, "domain x.[1, 2] end": 11, "domain x.[0].[1] end": 12, "domain !x.[0] end": 9, "domain 1.[0] end": 8, "domain x .[ 0 end": 14, "domain (x).[0] end": 10,
		"domain ! 1 end": 9, "domain !!x end": 8, "domain !(x) end": 8, "domain print end": 13, "domain print - 1 end": 13, "domain print if 1 then 1 else 1 end": 13, "domain f fun x -> x end": 9, "domain 1 + let x = 1 in x end": 11, "domain f match x with none -> 1 end": 9,
		"domain swap 1 1 end": 12, "domain swap a end": 14, "domain swap (a) 1 end": 12, "domain add a + 1 end": 13, "domain cas a 1 end": 15, "domain cas a (1, 2) end": 20, "domain some end": 12, "domain none none -> 1 end": 17,
		"domain (1 end": 10, "domain 1) end": 8, "domain (1, end": 11, "domain (, 1) end": 8, "domain (1, 2, 3) end": 12, "domain (1,) end": 10, "domain 1, 2 end": 8, "domain (1] end": 9, "domain ((1) end": 12,
		"domain match x end": 15, "domain match x none -> 1 end": 20, "domain match x with end": 20, "domain match x with 1 -> 1 end": 20, "domain match x with y -> 1 end": 20, "domain match x with | none -> 1 end": 20, "domain match x with none 1 end": 25, "domain match x with none := 1 end": 25, "domain match x with some -> 1 end": 25, "domain match x with some (y) -> 1 end": 25, "domain match x with some y z -> 1 end": 27,
		"domain match x with () -> 1 end": 21, "domain match x with (a) -> 1 end": 22, "domain match x with (a, 1) -> 1 end": 24, "domain match x with (a, b, c) -> 1 end": 25, "domain match x with (a, b) 1 end": 27, "domain match x with ((a), b) -> 1 end": 21, "domain match x with none -> 1 | end": 32, "domain match x; y with none -> 1 end": 14, "domain match x with none -> end": 28,
		"domain then end": 7, "domain with end": 7, "domain 1 then 2 end": 9, "domain | end": 7, "domain -> end": 7, "domain x -> 1 end": 9, "domain ] end": 7, "domain <- 1 end": 7, "domain .[0] end": 7, "domain = 1 end": 7, "domain domain end": 7,
	} {
		wantFault(t, text, api.ErrParse, at)
	}
}
