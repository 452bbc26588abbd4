package parse

import (
	"math/rand"
	"slices"
	"strings"
	"testing"

	"selvage/api"
	"selvage/lex"
)

// The chapter's grammar, a way a line; what begins with a capital is no token, but for NAME and NUMBER.
const plainRules = `
Program Decl Program
Program Domains
Domains Domain
Domains Domain Domains
Decl cell NAME = Int
Decl atom NAME = Int
Decl row NAME NUMBER
Int NUMBER
Int - NUMBER
Domain domain Seq end
Test Sum
Test Sum < Sum
Test Sum = Sum
Sum Prod
Sum Sum + Prod
Sum Sum - Prod
Prod App
Prod Prod * App
Prod Prod / App
App Unit
App App Unit
Unit ! NAME
Unit print Unit
Unit swap NAME Unit
Unit add NAME Unit
Unit cas NAME Unit Unit
Unit some Unit
Unit NAME
Unit NAME .[ Expr ]
Unit NUMBER
Unit none
Unit true
Unit false
Unit ( )
Unit ( Seq )
Unit ( Seq , Seq )
`

// The expressions by what may stand at their ends, so that there is one way to read each text: W has no match at its end that isn't whole (a | behind it would be of that), T has no let there (a ; behind it would be of that). ~ is the end's own letters.
const endRules = `
Seq~ Expr~
Seq~ ExprT ; Seq~
Expr~ if Expr then Expr else Expr~
Expr~ fun NAME -> Expr~
Expr~ match Expr with none -> ExprW | some NAME -> Expr~
Expr~ match Expr with some NAME -> ExprW | none -> Expr~
Expr~ match Expr with ( NAME , NAME ) -> Expr~
Expr~ NAME := Expr~
Expr~ NAME .[ Expr ] <- Expr~
Expr~ Test
`

const letRules = `
Expr~ let NAME = Expr in Seq~
`

const openRules = `
Expr~ match Expr with none -> Expr~
Expr~ match Expr with some NAME -> Expr~
`

func theRules() [][]string {
	text := plainRules
	for _, end := range []string{"", "W", "T", "WT"} {
		more := endRules
		if !strings.Contains(end, "T") {
			more += letRules
		}
		if !strings.Contains(end, "W") {
			more += openRules
		}
		text += strings.ReplaceAll(more, "~", end)
	}
	var out [][]string
	for _, line := range strings.Split(text, "\n") {
		if line != "" {
			out = append(out, strings.Fields(line))
		}
	}
	return out
}

// item is a rule that has been read up to a place, from a token on.
type item struct{ rule, dot, from int }

// chart is all that may have been read of the tokens so far: a list of items behind each of them.
type chart struct {
	rules [][]string
	of    map[string][]int
	sets  [][]item
}

func newChart() *chart {
	c := &chart{rules: theRules(), of: map[string][]int{}}
	for i, r := range c.rules {
		c.of[r[0]] = append(c.of[r[0]], i)
	}
	var start []item
	for _, i := range c.of["Program"] {
		start = append(start, item{i, 1, 0})
	}
	c.close(start)
	return c
}

// behind: what the item wants next; nothing, if it has been read.
func (c *chart) behind(i item) string {
	if r := c.rules[i.rule]; i.dot < len(r) {
		return r[i.dot]
	}
	return ""
}

// close adds a list, with all that follows from it.
func (c *chart) close(list []item) {
	here := len(c.sets)
	seen := map[item]bool{}
	for _, i := range list {
		seen[i] = true
	}
	add := func(i item) {
		if !seen[i] {
			seen[i] = true
			list = append(list, i)
		}
	}
	for n := 0; n < len(list); n++ {
		i := list[n]
		next := c.behind(i)
		for _, rule := range c.of[next] {
			add(item{rule, 1, here})
		}
		if next != "" {
			continue
		}
		// No rule is empty, so what it is a part of stands in a list that is whole.
		for _, k := range c.sets[i.from] {
			if c.behind(k) == c.rules[i.rule][0] {
				add(item{k.rule, k.dot + 1, k.from})
			}
		}
	}
	c.sets = append(c.sets, list)
}

func symbol(t api.Token) string {
	switch t.Kind {
	case api.Word:
		return "NAME"
	case api.Number:
		return "NUMBER"
	}
	return t.Text
}

// goesOn: is there a program that has this token next?
func (c *chart) goesOn(t api.Token) bool {
	s := symbol(t)
	return slices.ContainsFunc(c.sets[len(c.sets)-1], func(i item) bool { return c.behind(i) == s })
}

func (c *chart) push(t api.Token) {
	var list []item
	for _, i := range c.sets[len(c.sets)-1] {
		if c.behind(i) == symbol(t) {
			list = append(list, item{i.rule, i.dot + 1, i.from})
		}
	}
	c.close(list)
}

func (c *chart) cut(n int) { c.sets = c.sets[:n] }

// whole: are the tokens so far a program?
func (c *chart) whole() bool {
	return slices.ContainsFunc(c.sets[len(c.sets)-1], func(i item) bool {
		return c.behind(i) == "" && i.from == 0 && c.rules[i.rule][0] == "Program"
	})
}

// byGrammar is what the grammar says of a text that has words and is within all limits.
func byGrammar(t *testing.T, c *chart, text string) (api.Errno, int) {
	t.Helper()
	tokens, e, _ := lex.Tokens(text)
	if e != api.OK {
		t.Fatalf("%q has no words", text)
	}
	defer c.cut(1)
	for _, w := range tokens {
		if !c.goesOn(w) {
			return api.ErrParse, w.At
		}
		c.push(w)
	}
	if !c.whole() {
		return api.ErrParse, len(text)
	}
	return api.OK, 0
}

func wantGrammar(t *testing.T, c *chart, text string) bool {
	t.Helper()
	want, place := byGrammar(t, c, text)
	p, e, at := Parse(text)
	if e != want || at != place || e != api.OK && len(p.Decls)+len(p.Domains) != 0 {
		t.Errorf("%q: %v, %d, %d, not %d, %d", text, p, e, at, want, place)
	}
	return want == api.OK
}

// walk holds Parse against the grammar on all rows of pieces, each as far as a program goes on, and one piece more.
func walk(t *testing.T, c *chart, text string, pieces []string, left int) {
	t.Helper()
	depth := len(c.sets)
	for _, s := range pieces {
		longer := text + " " + s
		fault := -1
		tokens, _, _ := lex.Tokens(s)
		for _, w := range tokens {
			if !c.goesOn(w) {
				fault = len(text) + 1 + w.At
				break
			}
			c.push(w)
		}
		_, e, at := Parse(longer)
		switch {
		case fault >= 0 && (e != api.ErrParse || at != fault):
			t.Errorf("%q: %d, %d, not ErrParse, %d", longer, e, at, fault)
		case fault < 0 && c.whole() && (e != api.OK || at != 0):
			t.Errorf("%q: %d, %d, not OK", longer, e, at)
		case fault < 0 && !c.whole() && (e != api.ErrParse || at != len(longer)):
			t.Errorf("%q: %d, %d, not ErrParse, %d", longer, e, at, len(longer))
		}
		if fault < 0 && left > 1 {
			walk(t, c, longer, pieces, left-1)
		}
		c.cut(depth)
	}
}

// walkFrom walks behind a text at which a program goes on.
func walkFrom(t *testing.T, text string, pieces []string, left int) {
	t.Helper()
	c := newChart()
	tokens, _, _ := lex.Tokens(text)
	for _, w := range tokens {
		c.push(w)
	}
	walk(t, c, text, pieces, left)
}

// each word of the language and each sign, a name and a number.
func eachToken() []string {
	return strings.Fields("cell atom row domain end let in if then else fun match with none some true false print swap add cas := <- -> .[ ( ) ] ; , ! | = < + - * / x 1")
}

// P5.1: the first token at which no program goes on.

func TestEachTokenFromTheFront(t *testing.T) {
	walkFrom(t, "", eachToken(), 5)
}

func TestEachTokenInADomain(t *testing.T) {
	walkFrom(t, "domain", eachToken(), 4)
}

func TestEachTokenBehindMuch(t *testing.T) {
	for _, text := range []string{
		"cell x = 1", "atom x = -", "row x", "domain 1 end", "domain 1 end domain 1 end",
		"domain let x = 1 in 1", "domain let x =", "domain if 1 then 1", "domain if 1 then 1 else 1", "domain fun x ->",
		"domain match x with none -> 1", "domain match x with some x -> 1", "domain match x with none -> 1 | some x -> 1", "domain match x with (x, x) -> 1",
		"domain match x with (x", "domain x := 1", "domain x.[1]", "domain x.[1] <- 1", "domain (x.[1])", "domain x x.[1]", "domain (1, 1", "domain (1; 1",
		"domain 1 < 1", "domain 1 = 1", "domain 1 + 1", "domain 1 * 1", "domain x x", "domain !x", "domain print x", "domain swap x x", "domain add x x", "domain cas x x", "domain cas x x x", "domain some x",
		"domain (match x with none -> 1", "domain x.[match x with none -> 1", "domain if match x with none -> 1", "domain let x = match x with none -> 1", "domain match match x with none -> 1",
	} {
		walkFrom(t, text, eachToken(), 3)
	}
}

// Matches in one another, with lets and sequences between them: whose a | is, and whose a ;.
func TestWhoseBar(t *testing.T) {
	pieces := []string{"match x with none ->", "match x with some y ->", "match x with (y, z) ->", "let x = 1 in", "1", ";", "| none ->", "| some y ->", "end"}
	walkFrom(t, "domain", pieces, 7)
	walkFrom(t, "domain match x with none -> match x with some y -> match x with none ->", pieces, 5)
	walkFrom(t, "domain match x with some y -> let x = 1 in match x with none -> let x = 1 in 1 ;", pieces, 5)
}

func chancePieces() []string {
	return append(eachToken(), "x", "x", "1", "1", "(", ")", ";", "|", "end", "cell x = 1", "atom x = - 1", "row x 1", "domain 1 end",
		"match x with none ->", "match x with some y ->", "match x with (y, z) ->", "| none ->", "| some y ->", "let x = 1 in", "if x then", "fun x ->", "x :=", "x.[", "] <-", "print")
}

// takes: does a program go on behind these words too? Then the chart has them.
func (c *chart) takes(text string) bool {
	depth := len(c.sets)
	tokens, _, _ := lex.Tokens(text)
	for _, w := range tokens {
		if !c.goesOn(w) {
			c.cut(depth)
			return false
		}
		c.push(w)
	}
	return true
}

// rowByChance: most of its pieces are such that a program goes on.
func rowByChance(r *rand.Rand, c *chart, pieces []string) string {
	defer c.cut(1)
	text := ""
	if r.Intn(4) > 0 && c.takes("domain") {
		text = "domain"
	}
	for range r.Intn(25) {
		s := pieces[r.Intn(len(pieces))]
		for !c.takes(s) {
			if r.Intn(60) == 0 {
				return text + " " + s
			}
			s = pieces[r.Intn(len(pieces))]
		}
		text += " " + s
	}
	return text
}

// few: it has no more declarations and domains than there may be.
func few(text string) bool {
	return strings.Count(text, "domain") <= 3 && strings.Count(text, "cell")+strings.Count(text, "atom")+strings.Count(text, "row") <= 8
}

func TestRowsByChance(t *testing.T) {
	r := rand.New(rand.NewSource(7))
	c := newChart()
	pieces := chancePieces()
	whole := 0
	for range 6000 {
		text := rowByChance(r, c, pieces)
		for _, s := range []string{text, text + " end", text + " 1 end", text + " " + pieces[r.Intn(len(pieces))] + " 1 end"} {
			if few(s) && wantGrammar(t, c, s) {
				whole++
			}
		}
	}
	if whole < 1000 {
		t.Error("only", whole, "rows are programs")
	}
}
