package parse

import (
	"strconv"
	"strings"
	"testing"

	"selvage/api"
)

// P5.1: too many, too much, too deep; and which of several faults is told.

func TestManyDeclarations(t *testing.T) {
	for _, d := range []string{"cell x = 1 ", "atom x = - 1 ", "row x 2 ", "row x 1\n"} {
		eight := strings.Repeat(d, 8)
		if p := wantOK(t, eight+"domain 1 end"); len(p.Decls) != 8 || p.Decls[7].At != 7*len(d) {
			t.Error(p)
		}
		wantFault(t, eight, api.ErrParse, len(eight))
		// The ninth is one too many from its first token on, whatever becomes of it.
		for _, ninth := range []string{"cell y = 1 domain 1 end", "atom y = 1 domain 1 end", "row y 1 domain 1 end", "cell", "row y 9 domain 1 end", "row y 0", "atom 1", "cell cell", "row row row"} {
			wantFault(t, eight+ninth, api.ErrLimit, len(eight))
			wantFault(t, eight+"# no\n "+ninth, api.ErrLimit, len(eight)+6)
		}
		wantFault(t, eight+"end", api.ErrParse, len(eight))
		wantFault(t, eight+"; cell", api.ErrParse, len(eight))
	}
}

func TestManyDomains(t *testing.T) {
	three := strings.Repeat("domain 1 end ", 3)
	if p := wantOK(t, three); len(p.Domains) != 3 {
		t.Error(p)
	}
	for _, fourth := range []string{"domain 1 end", "domain", "domain end", "domain 1", "domain domain", "domain 1 end 5"} {
		wantFault(t, three+fourth, api.ErrLimit, len(three))
		wantFault(t, "row v 8 "+three+fourth, api.ErrLimit, 8+len(three))
	}
	for _, other := range []string{"end", "1", "cell x = 1", "domains"} {
		wantFault(t, three+other, api.ErrParse, len(three))
	}
}

func TestRows(t *testing.T) {
	for n := 1; n <= 8; n++ {
		text := "row v " + strconv.Itoa(n) + " domain 1 end"
		if p := wantOK(t, text); len(p.Decls) != 1 || p.Decls[0] != (api.Decl{Kind: api.Row, Name: "v", N: n}) {
			t.Error(p)
		}
	}
	for _, n := range []string{"0", "9", "10", "16", "17", "999999999"} {
		wantFault(t, "row v "+n+" domain 1 end", api.ErrLimit, 6)
		wantFault(t, "cell x = 9 row v "+n+" domain 1 end", api.ErrLimit, 17)
		// It is told ahead of what follows, and ahead of the end that is missing.
		for _, behind := range []string{"", " ", " 5", " row w 9", " end", " domain"} {
			wantFault(t, "row v "+n+behind, api.ErrLimit, 6)
		}
	}
	// What is ahead of it is told first.
	wantFault(t, "row 0 9", api.ErrParse, 4)
	wantFault(t, "row v - 9", api.ErrParse, 6)
	wantFault(t, "row v 0 row w 9 domain 1 end", api.ErrLimit, 6)
	wantFault(t, "cell x = row v 9", api.ErrParse, 9)
	// No other number is held to that.
	wantOK(t, "cell x = 9 atom a = 0 domain 9; v.[99]; 0 end")
}

func TestManyLocations(t *testing.T) {
	for _, text := range []string{
		"row a 8 row b 8 ", "row a 8 row b 7 cell c = 1 ", "row a 8 row b 2 cell c = 1 cell d = 1 atom e = 1 atom f = 1 cell g = 1 cell h = 17 ",
		strings.Repeat("row a 2 ", 8), "row a 5 row b 5 row c 5 atom d = 1 ", "row a 8 row b 1 row c 7 ",
	} {
		if p := wantOK(t, text+"domain 1 end"); len(p.Decls) == 0 {
			t.Error(p)
		}
	}
	for text, at := range map[string]int{
		"row a 8 row b 8 cell c = 1 domain 1 end":   16,
		"row a 8 row b 8 atom c = - 1 domain 1 end": 16,
		"row a 8 row b 8 row c 1 domain 1 end":      16,
		"row a 8 row b 8 row c 8 domain 1 end":      16,
		"row a 8 row b 7 row c 2 domain 1 end":      16,
		"row a 8 cell b = 0 row c 8 domain 1 end":   19,
		"row a 8 row b 8\n\n row c 1":               18,
		// Behind it all there are too many, and what follows does not matter.
		"row a 8 row b 8 cell c = 1":                           16,
		"row a 8 row b 8 cell c = 1 5":                         16,
		"row a 8 row b 8 cell c = 1 row d 9":                   16,
		"row a 8 row b 8 cell c = 1 row d 1":                   16,
		strings.Repeat("row a 2 ", 7) + "row b 3 domain 1 end": 56,
	} {
		wantFault(t, text, api.ErrLimit, at)
	}
	// Ahead of its end a declaration is none: what is faulty in it is told.
	wantFault(t, "row a 8 row b 8 cell = 1 domain 1 end", api.ErrParse, 21)
	wantFault(t, "row a 8 row b 8 cell c = ", api.ErrParse, 25)
	wantFault(t, "row a 8 row b 8 row c domain", api.ErrParse, 22)
	wantFault(t, "row a 8 row b 8 row c 9 domain 1 end", api.ErrLimit, 22)
	wantFault(t, "row a 8 row b 8 row c 0 domain 1 end", api.ErrLimit, 22)
}

// ofDepth: texts of expressions that are so deep, one for each way in which there are kids.
func ofDepth(n int) []string {
	again := func(front, inside, back string) string {
		return strings.Repeat(front, n-1) + inside + strings.Repeat(back, n-1)
	}
	return []string{
		again("print ", "1", ""), again("some ", "none", ""), again("swap a ", "1", ""), again("add a ", "()", ""), again("cas a 1 ", "1", ""), again("cas a ", "1", " 1"),
		again("v.[", "x", "]"), again("v.[1] <- ", "true", ""), again("x := ", "1", ""), again("fun x -> ", "x", ""),
		again("let x = 1 in ", "x", ""), again("let x = ", "1", " in 2"), again("if ", "1", " then 2 else 3"), again("if 1 then ", "2", " else 3"), again("if 1 then 2 else ", "3", ""),
		again("match ", "x", " with none -> 1"), again("match x with none -> ", "1", ""), again("match x with some y -> ", "1", ""), again("match x with (y, z) -> ", "1", ""),
		again("match x with none -> 1 | some y -> ", "1", ""), again("match x with some y -> 1 | none -> ", "1", ""), again("match ", "x", " with (y, z) -> 1"),
		again("1; ", "1", ""), again("(", "1", "; 1)"), again("f (", "1", ")"), again("", "f", " 1"), again("(", "1", ", 1)"), again("(1, ", "1", ")"),
		again("", "1", " + 1"), again("", "1", " - 1"), again("", "1", " * 1"), again("", "1", " / 1"), again("1 - (", "1", ")"), again("1 / (", "1", ")"),
		again("(", "1", ") < 1"), again("1 < (", "1", ")"), again("(", "1", ") = 1"), again("1 = (", "1", ")"),
	}
}

func TestDeepDomains(t *testing.T) {
	for _, n := range []int{1, 2, 59, 60} {
		for _, s := range ofDepth(n) {
			p := wantOK(t, "domain "+s+" end")
			if len(p.Domains) != 1 || Deep(p.Domains[0]) != n {
				t.Errorf("%s is not %d deep", short(s), n)
			}
		}
	}
	for _, n := range []int{61, 62, 100} {
		for _, s := range ofDepth(n) {
			text := "cell x = 1\ndomain " + s + " end"
			wantFault(t, text, api.ErrLimit, 11)
			wantFault(t, "domain 1 end "+text[11:]+" domain 1 end", api.ErrLimit, 13)
			wantFault(t, "domain 1 end domain () end "+text[11:], api.ErrLimit, 27)
		}
	}
}

// Parentheses make no expression, and so nothing deep; nor do many expressions beside one another.
func TestNotDeep(t *testing.T) {
	wantOK(t, "domain "+strings.Repeat("(", 700)+"1"+strings.Repeat(")", 700)+" end")
	sixty := ofDepth(60)[0]
	p := wantOK(t, "domain "+sixty+" end domain "+sixty+" end domain ("+sixty+") end")
	for _, d := range p.Domains {
		if Deep(d) != 60 {
			t.Error(Deep(d))
		}
	}
	fiftyNine := ofDepth(59)[0]
	wantOK(t, "domain ("+fiftyNine+", "+fiftyNine+") end")
	wantFault(t, "domain ("+sixty+", 1) end", api.ErrLimit, 0)
	wantFault(t, "domain (1, "+sixty+") end", api.ErrLimit, 0)
}

// Where a domain has been read it may be too deep: not ahead of that, and not behind what follows.
func TestDeepAndOtherFaults(t *testing.T) {
	for _, s := range ofDepth(61) {
		text := "domain " + s
		wantFault(t, text, api.ErrParse, len(text))
		wantFault(t, text+" domain 1 end", api.ErrParse, len(text)+1)
		wantFault(t, text+" ) end", api.ErrParse, len(text)+1)
		for _, behind := range []string{" end 5", " end end", " end domain", " end domain end", " end cell x = 1", " end domain 1 end domain 1 end domain 1 end", " end " + text + " end"} {
			wantFault(t, text+behind, api.ErrLimit, 0)
		}
		two := "domain 1 end domain 1 end "
		wantFault(t, two+text+" end domain 1 end", api.ErrLimit, len(two))
		wantFault(t, two+"domain 1 end "+text+" end", api.ErrLimit, len(two)+13)
		wantFault(t, "row v 9 "+text+" end", api.ErrLimit, 6)
		wantFault(t, "domain end "+text+" end", api.ErrParse, 7)
	}
	// The longest way down that words allow.
	for _, s := range []string{"domain " + strings.Repeat("(", 1499), "domain " + strings.Repeat("f(", 749), "domain " + strings.Repeat("some ", 1499), "domain " + strings.Repeat("1;", 749)} {
		wantFault(t, s, api.ErrParse, len(s))
	}
	wantFault(t, "domain "+strings.Repeat("some ", 1497)+"1 end", api.ErrLimit, 0)
	wantFault(t, "domain "+strings.Repeat("1;", 748)+"1 end", api.ErrLimit, 0)
}

// The errors of lex.Tokens come ahead of all, wherever they are.
func TestWordsFirst(t *testing.T) {
	for text, at := range map[string]int{
		"domain 01 end": 7, "domain end ?": 11, "? domain end": 0, "end 1a": 4, "row v 9 domain 1 end :": 21, "domain 1 end abcdefghijklmnopq": 13, "[": 0, "domain 1234567890 end": 7,
		"domain 1 end domain 1 end domain 1 end domain 1 end ?": 52, "row a 8 row b 8 cell c = 1 ?": 27, "domain " + ofDepth(61)[0] + " end ?": 7 + len(ofDepth(61)[0]) + 5,
		strings.Repeat("cell x = 1 ", 9) + "?": 99,
	} {
		wantFault(t, text, api.ErrLex, at)
	}
	for _, text := range []string{"domain 1 end" + strings.Repeat(" ", 8181), strings.Repeat(" ", 8193), "?" + strings.Repeat("end ", 2100)} {
		wantFault(t, text, api.ErrLimit, 0)
	}
	wantOK(t, "domain 1 end"+strings.Repeat(" ", 8180))
	wantFault(t, "domain "+strings.Repeat("1 ", 1500), api.ErrLimit, 7+2*1499)
	wantFault(t, strings.Repeat("end ", 1501), api.ErrLimit, 6000)
	wantFault(t, strings.Repeat("end ", 1500), api.ErrParse, 0)
}

// P5.2

func TestDeep(t *testing.T) {
	one := api.Expr{Kind: api.Num, N: 5}
	for _, e := range []api.Expr{{}, one, {Kind: api.Unit, Kids: []api.Expr{}}, {Kind: 99, Text: "x", N: -1, At: -7}} {
		if Deep(e) != 1 {
			t.Error(tell(e), Deep(e))
		}
	}
	for kind := range 27 {
		for n := 1; n <= 4; n++ {
			for deepest := range n {
				kids := make([]api.Expr, n)
				kids[deepest] = api.Expr{Kind: api.Some, Kids: []api.Expr{{Kind: api.Some, Kids: []api.Expr{one}}}}
				kids[0].Kids = append(kids[0].Kids, one)
				if e := (api.Expr{Kind: kind, Kids: kids}); Deep(e) != 4 {
					t.Error(tell(e), Deep(e))
				}
			}
		}
	}
	for text, want := range map[string]int{
		"1": 1, "x": 1, "()": 1, "true": 1, "none": 1, "!x": 1, "print 1": 2, "some none": 2, "swap a 1": 2, "add a 1": 2, "cas a 1 2": 2, "x := 1": 2, "v.[0]": 2, "v.[0] <- 1": 2, "fun x -> x": 2,
		"let x = 1 in x": 2, "if 1 then 2 else 3": 2, "f x": 2, "f x y": 3, "1; 2": 2, "1; 2; 3": 3, "(1; 2); 3": 3, "(1, 2)": 2, "1 + 2": 2, "1 + 2 + 3": 3, "1 + 2 * 3": 3, "1 < 2": 2, "1 = 2": 2,
		"match x with none -> 1": 2, "match x with some y -> 1 | none -> print 2": 3, "match print x with (a, b) -> 1": 3, "((((1))))": 1, "v.[v.[v.[0]]] <- 1": 4,
	} {
		if p := wantOK(t, "domain "+text+" end"); Deep(p.Domains[0]) != want {
			t.Errorf("%q: %d, not %d", text, Deep(p.Domains[0]), want)
		}
	}
}

func TestVeryDeep(t *testing.T) {
	for _, n := range []int{60, 61, 1000, 1 << 16} {
		var e api.Expr
		for range n - 1 {
			e = api.Expr{Kind: api.Some, Kids: []api.Expr{e}}
		}
		if Deep(e) != n {
			t.Error(n, Deep(e))
		}
	}
}
