package parse

import (
	"math/rand"
	"reflect"
	"strconv"
	"strings"
	"testing"
	"unsafe"

	"selvage/api"
	"selvage/lex"
)

// maker makes words of a program by chance, and what they are, with each word's number for its place.
type maker struct {
	r     *rand.Rand
	words []string
	left  int // how many expressions more there may be, about
}

func (m *maker) say(words string) int {
	at := len(m.words)
	m.words = append(m.words, strings.Fields(words)...)
	return at
}

func (m *maker) name() string {
	names := strings.Fields("x y z a1 lets ender abcdefghijklmnop")
	s := names[m.r.Intn(len(names))]
	m.say(s)
	return s
}

func (m *maker) number() int {
	numbers := []int{0, 1, 7, 10, 999999999}
	n := numbers[m.r.Intn(len(numbers))]
	m.say(strconv.Itoa(n))
	return n
}

func (m *maker) program() api.Program {
	var p api.Program
	for range m.r.Intn(9) {
		p.Decls = append(p.Decls, m.decl())
	}
	for range 1 + m.r.Intn(3) {
		m.say("domain")
		p.Domains = append(p.Domains, m.seq(0, false))
		m.say("end")
	}
	return p
}

// decl has few locations, so that 8 of them may be together.
func (m *maker) decl() api.Decl {
	kind := 1 + m.r.Intn(3)
	d := api.Decl{Kind: kind, At: m.say(strings.Fields("cell atom row")[kind-1]), Name: m.name()}
	switch {
	case kind == api.Row:
		d.N = 1 + m.r.Intn(2)
		m.say(strconv.Itoa(d.N))
	case m.r.Intn(2) == 0:
		m.say("= -")
		d.N = -m.number()
	default:
		m.say("=")
		d.N = m.number()
	}
	return d
}

// seq of some depth; bar: a | stands behind it, so that no match at its end may lack an arm.
func (m *maker) seq(deep int, bar bool) api.Expr {
	if m.small(deep) || m.r.Intn(3) > 0 {
		return m.expr(deep, bar, false)
	}
	e := api.Expr{Kind: api.Seq, At: len(m.words)}
	first := m.expr(deep+1, false, true)
	m.say(";")
	e.Kids = []api.Expr{first, m.seq(deep+1, bar)}
	return e
}

func (m *maker) small(deep int) bool {
	m.left--
	return deep > 20 || m.left < 0
}

// expr; semi: a ; stands behind it, so that no let may be at its end.
func (m *maker) expr(deep int, bar, semi bool) api.Expr {
	if m.small(deep) {
		return m.unit(deep)
	}
	deep++
	at := len(m.words)
	switch m.r.Intn(12) {
	case 0:
		if !semi {
			return m.let(deep, bar)
		}
	case 1:
		m.say("if")
		which := m.expr(deep, false, false)
		m.say("then")
		yes := m.expr(deep, false, false)
		m.say("else")
		return api.Expr{Kind: api.If, At: at, Kids: []api.Expr{which, yes, m.expr(deep, bar, semi)}}
	case 2:
		m.say("fun")
		name := m.name()
		m.say("->")
		return api.Expr{Kind: api.Fun, Text: name, At: at, Kids: []api.Expr{m.expr(deep, bar, semi)}}
	case 3, 4:
		return m.match(deep, bar, semi)
	case 5:
		name := m.name()
		m.say(":=")
		return api.Expr{Kind: api.Store, Text: name, At: at, Kids: []api.Expr{m.expr(deep, bar, semi)}}
	case 6:
		name := m.name()
		m.say(".[")
		place := m.expr(deep, false, false)
		m.say("] <-")
		return api.Expr{Kind: api.Put, Text: name, At: at, Kids: []api.Expr{place, m.expr(deep, bar, semi)}}
	}
	return m.test(deep)
}

func (m *maker) let(deep int, bar bool) api.Expr {
	e := api.Expr{Kind: api.Let, At: m.say("let"), Text: m.name()}
	m.say("=")
	what := m.expr(deep, false, false)
	m.say("in")
	e.Kids = []api.Expr{what, m.seq(deep, bar)}
	return e
}

func (m *maker) match(deep int, bar, semi bool) api.Expr {
	at := m.say("match")
	of := m.expr(deep, false, false)
	m.say("with")
	if m.r.Intn(4) == 0 {
		m.say("(")
		one := m.name()
		m.say(",")
		other := m.name()
		m.say(") ->")
		return api.Expr{Kind: api.Two, Text: one, Other: other, At: at, Kids: []api.Expr{of, m.expr(deep, bar, semi)}}
	}
	e := api.Expr{Kind: api.Opt, At: at, Kids: []api.Expr{of, {Kind: api.Unit, At: at}, {Kind: api.Unit, At: at}}}
	arm := m.r.Intn(2)
	if bar || m.r.Intn(2) == 0 {
		m.arm(&e, arm, deep, true, false)
		m.say("|")
		arm = 1 - arm
	}
	m.arm(&e, arm, deep, bar, semi)
	return e
}

func (m *maker) arm(e *api.Expr, arm, deep int, bar, semi bool) {
	if arm == 0 {
		m.say("none ->")
	} else {
		m.say("some")
		e.Text = m.name()
		m.say("->")
	}
	e.N += arm + 1
	e.Kids[arm+1] = m.expr(deep, bar, semi)
}

func (m *maker) test(deep int) api.Expr {
	at := len(m.words)
	left := m.sum(deep)
	switch m.r.Intn(6) {
	case 0:
		m.say("<")
		return api.Expr{Kind: api.Less, At: at, Kids: []api.Expr{left, m.sum(deep)}}
	case 1:
		m.say("=")
		return api.Expr{Kind: api.Same, At: at, Kids: []api.Expr{left, m.sum(deep)}}
	}
	return left
}

func (m *maker) sum(deep int) api.Expr {
	return m.chain(deep, "+ -", func() api.Expr {
		return m.chain(deep, "* /", func() api.Expr { return m.app(deep) })
	})
}

// chain of parts with signs between them, that stands to the left.
func (m *maker) chain(deep int, signs string, part func() api.Expr) api.Expr {
	at := len(m.words)
	left := part()
	for m.r.Intn(5) == 0 && !m.small(deep) {
		sign := strings.Fields(signs)[m.r.Intn(2)]
		m.say(sign)
		left = api.Expr{Kind: api.Op, Text: sign, At: at, Kids: []api.Expr{left, part()}}
	}
	return left
}

func (m *maker) app(deep int) api.Expr {
	at := len(m.words)
	left := m.unit(deep)
	for m.r.Intn(5) == 0 && !m.small(deep) {
		left = api.Expr{Kind: api.App, At: at, Kids: []api.Expr{left, m.unit(deep)}}
	}
	return left
}

func (m *maker) unit(deep int) api.Expr {
	at := len(m.words)
	if m.small(deep) || m.r.Intn(2) == 0 {
		return m.leaf()
	}
	deep++
	switch m.r.Intn(8) {
	case 0:
		m.say("print")
		return api.Expr{Kind: api.Tell, At: at, Kids: []api.Expr{m.unit(deep)}}
	case 1:
		m.say("some")
		return api.Expr{Kind: api.Some, At: at, Kids: []api.Expr{m.unit(deep)}}
	case 2:
		m.say("swap")
		return api.Expr{Kind: api.Swap, At: at, Text: m.name(), Kids: []api.Expr{m.unit(deep)}}
	case 3:
		m.say("add")
		return api.Expr{Kind: api.Inc, At: at, Text: m.name(), Kids: []api.Expr{m.unit(deep)}}
	case 4:
		m.say("cas")
		return api.Expr{Kind: api.Cas, At: at, Text: m.name(), Kids: []api.Expr{m.unit(deep), m.unit(deep)}}
	case 5:
		name := m.name()
		m.say(".[")
		place := m.expr(deep, false, false)
		m.say("]")
		return api.Expr{Kind: api.At, At: at, Text: name, Kids: []api.Expr{place}}
	}
	return m.inside(deep)
}

func (m *maker) inside(deep int) api.Expr {
	at := m.say("(")
	e := m.seq(deep, false)
	if m.r.Intn(2) == 0 {
		m.say(",")
		e = api.Expr{Kind: api.Pair, At: at, Kids: []api.Expr{e, m.seq(deep, false)}}
	}
	m.say(")")
	return e
}

func (m *maker) leaf() api.Expr {
	at := len(m.words)
	switch m.r.Intn(8) {
	case 0:
		m.say("true")
		return api.Expr{Kind: api.Bool, N: 1, At: at}
	case 1:
		m.say("false")
		return api.Expr{Kind: api.Bool, At: at}
	case 2:
		m.say("( )")
		return api.Expr{Kind: api.Unit, At: at}
	case 3:
		m.say("none")
		return api.Expr{Kind: api.None, At: at}
	case 4:
		m.say("!")
		return api.Expr{Kind: api.Load, Text: m.name(), At: at}
	case 5, 6:
		return api.Expr{Kind: api.Name, Text: m.name(), At: at}
	}
	return api.Expr{Kind: api.Num, N: m.number(), At: at}
}

// lay the words out as a text, with what stands between them by chance; tight: nothing, where that leaves them as they are.
func (m *maker) lay(tight bool) (text string, places []int) {
	gaps := []string{" ", "\n", "\t", "\r", "  ", "#\n", " # end ? 01\n", "\r\n", "#(\n#)\n"}
	var b strings.Builder
	if !tight {
		b.WriteString(gaps[m.r.Intn(len(gaps))])
	}
	for i, w := range m.words {
		places = append(places, b.Len())
		b.WriteString(w)
		if !tight || i+1 < len(m.words) && !apart(w, m.words[i+1]) {
			b.WriteString(gaps[m.r.Intn(len(gaps))])
		}
	}
	return b.String(), places
}

// apart: are they two words, nothing between them?
func apart(a, b string) bool {
	l, e, _ := lex.Tokens(a + b)
	return e == api.OK && len(l) == 2 && l[0].Text == a
}

// placed: the same program, with places for the words' numbers.
func placed(p api.Program, places []int) api.Program {
	var out api.Program
	for _, d := range p.Decls {
		d.At = places[d.At]
		out.Decls = append(out.Decls, d)
	}
	for _, e := range p.Domains {
		out.Domains = append(out.Domains, placedExpr(e, places))
	}
	return out
}

func placedExpr(e api.Expr, places []int) api.Expr {
	out := e
	out.At = places[e.At]
	out.Kids = nil
	for _, k := range e.Kids {
		out.Kids = append(out.Kids, placedExpr(k, places))
	}
	return out
}

func tellProgram(p api.Program) string {
	var b strings.Builder
	for _, d := range p.Decls {
		b.WriteString("(" + strconv.Itoa(d.Kind) + "@" + strconv.Itoa(d.At) + " " + d.Name + " " + strconv.Itoa(d.N) + ") ")
	}
	for _, e := range p.Domains {
		b.WriteString(tell(e) + " ")
	}
	return b.String()
}

func countKinds(e api.Expr, count map[int]int) {
	count[e.Kind]++
	for _, k := range e.Kids {
		countKinds(k, count)
	}
}

// P5.1 and P5.3: programs by chance, each laid out in several ways, are what they were made of, each part in its place.
func TestProgramsByChance(t *testing.T) {
	r := rand.New(rand.NewSource(8))
	count := map[int]int{}
	for i := range 4000 {
		m := &maker{r: r, left: 5 + i%100}
		p := m.program()
		for _, e := range p.Domains {
			countKinds(e, count)
		}
		for k := range 3 {
			text, places := m.lay(k == 0)
			if len(m.words) > api.MaxTokens || len(text) > api.MaxText {
				continue
			}
			got, e, at := Parse(text)
			if want := tellProgram(placed(p, places)); e != api.OK || at != 0 || tellProgram(got) != want {
				t.Fatalf("%q: %d, %d\n%s, not\n%s", text, e, at, tellProgram(got), want)
			}
		}
	}
	for kind := api.Num; kind <= api.Two; kind++ {
		if count[kind] < 500 {
			t.Error("only", count[kind], "of", kindName(kind))
		}
	}
}

// P5.3: a program with a fault has the same one at the same word, whatever stands between its words.
func TestFaultsWithOtherBlanks(t *testing.T) {
	r := rand.New(rand.NewSource(9))
	count := map[api.Errno]int{}
	for i := range 5000 {
		m := &maker{r: r, left: 5 + i%40}
		m.program()
		m.spoil()
		text, places := m.lay(false)
		if len(m.words) > api.MaxTokens || len(text) > api.MaxText {
			continue
		}
		p, e, at := Parse(text)
		word := wordAt(places, at)
		count[e]++
		for k := range 2 {
			other, otherPlaces := m.lay(k == 0)
			if len(other) > api.MaxText {
				continue
			}
			otherP, otherE, otherAt := Parse(other)
			same := otherE == e && tellProgram(unplaced(otherP)) == tellProgram(unplaced(p))
			if e != api.OK {
				same = same && wordAt(otherPlaces, otherAt) == word && (word < len(places) || otherAt == len(other))
			}
			if !same {
				t.Fatalf("%q: %d, %d\n%q: %d, %d", text, e, at, other, otherE, otherAt)
			}
		}
	}
	if count[api.ErrParse] < 1000 || count[api.ErrLimit] < 200 || count[api.OK] < 200 {
		t.Error(count)
	}
}

// P5.1: programs of all kinds with a fault in them have it where the grammar says.
func TestSpoiltByGrammar(t *testing.T) {
	r := rand.New(rand.NewSource(11))
	c := newChart()
	held := 0
	for i := range 1500 {
		m := &maker{r: r, left: 5 + i%30}
		m.program()
		m.spoil()
		text, _ := m.lay(i%2 == 0)
		if _, e, _ := Parse(text); e == api.ErrParse || e == api.OK {
			held++
			wantGrammar(t, c, text)
		}
	}
	if held < 1000 {
		t.Error("only", held)
	}
}

// spoil the words: one left out, one said twice, one for another, or one more.
func (m *maker) spoil() {
	i := m.r.Intn(len(m.words))
	if m.r.Intn(4) == 0 {
		// Where a declaration may stand.
		m.words = append(strings.Fields([]string{"row v 9", "row v 0", "row v 8 row w 8 cell x = 1", "row v 8 row w 7", "cell x = 1 atom y = 2"}[m.r.Intn(5)]), m.words...)
	}
	more := append(eachToken(), "9", "0", "domain 1 end", "cell x = 1")
	s := more[m.r.Intn(len(more))]
	front, back := m.words[:i:i], m.words[i:]
	switch m.r.Intn(4) {
	case 0:
		s, back = "", back[1:]
	case 1:
		s = back[0]
	case 2:
		back = back[1:]
	}
	m.words = append(append(front, strings.Fields(s)...), back...)
}

// wordAt: the number of the word at a place; as many as there are, if there is none.
func wordAt(places []int, at int) int {
	for i, p := range places {
		if p == at {
			return i
		}
	}
	return len(places)
}

func unplaced(p api.Program) api.Program {
	return placed(p, make([]int, api.MaxText+1))
}

func TestOtherBlanks(t *testing.T) {
	const text = "cell x = - 5 row v 2 domain let y = ! x in v .[ 1 ] <- ( y , 2 ) ; match none with none -> ( ) | some z -> print z end domain x := 1 end"
	want := wantOK(t, text)
	for _, gap := range []string{"\n", "\t", "\r", "   ", "#\n", " # domain end ?\n ", "\r\n\r\n"} {
		got := wantOK(t, gap+strings.ReplaceAll(text, " ", gap)+gap)
		if tellProgram(unplaced(got)) != tellProgram(unplaced(want)) {
			t.Errorf("%q: %s", gap, tellProgram(got))
		}
	}
	tight := wantOK(t, "cell x=-5 row v 2 domain let y=!x in v.[1]<-(y,2);match none with none->()|some z->print z end domain x:=1 end# all")
	if tellProgram(unplaced(tight)) != tellProgram(unplaced(want)) {
		t.Error(tellProgram(tight))
	}
}

// Rules that hold everywhere.

// TestAnyBytes: short texts, and bytes by chance, are answered: a program, or an error with a place in the text.
func TestAnyBytes(t *testing.T) {
	r := rand.New(rand.NewSource(10))
	for i := range 1 << 16 {
		wantSome(t, string([]byte{byte(i), byte(i >> 8)}))
	}
	const bytes = "domain end x1 :=()<-.[]!;|,+*/#\n\x00\xff"
	for range 20000 {
		b := make([]byte, r.Intn(60))
		for i := range b {
			b[i] = bytes[r.Intn(len(bytes))]
		}
		wantSome(t, "domain "+string(b)+" end")
	}
}

func wantSome(t *testing.T, text string) {
	t.Helper()
	p, e, at := Parse(text)
	switch e {
	case api.OK:
		if at != 0 || len(p.Domains) == 0 {
			t.Errorf("%q: %v, %d", text, p, at)
		}
	case api.ErrLex, api.ErrParse, api.ErrLimit:
		if at < 0 || at > len(text) || len(p.Decls)+len(p.Domains) != 0 {
			t.Errorf("%q: %v, %d, %d", text, p, e, at)
		}
	default:
		t.Errorf("%q: %d", text, e)
	}
}

// lists of kids and declarations, all their room: where each item lies.
func countLists(e []api.Expr, count map[*api.Expr]int) {
	for i := range e[:cap(e)] {
		count[&e[:cap(e)][i]]++
	}
	for _, k := range e {
		countLists(k.Kids, count)
	}
}

// TestNewMemory: a text whose bytes become others behind the call leaves its program as it was; no two lists share any room.
func TestNewMemory(t *testing.T) {
	const whole = "cell lx = 1 row v 2 domain let y1 = !lx in match y1 with some z -> v.[z] <- 2 | none -> cas a (1, 2) 3; f x y end domain match x with none -> 1 end"
	b := []byte(whole)
	text := unsafe.String(&b[0], len(b))
	p := wantOK(t, text)
	other := wantOK(t, text)
	for i := range b {
		b[i] = '?'
	}
	want := wantOK(t, whole)
	if !reflect.DeepEqual(p, want) || !reflect.DeepEqual(other, want) {
		t.Error(tellProgram(p), tellProgram(other))
	}
	count := map[*api.Expr]int{}
	countLists(p.Domains, count)
	countLists(other.Domains, count)
	for _, n := range count {
		if n != 1 {
			t.Error("lists share room")
		}
	}
	p.Decls[0].Name, p.Domains[0].Text = "", ""
	if !reflect.DeepEqual(other, want) {
		t.Error(tellProgram(other))
	}
}

// TestDeepLeavesAll: what is handed in to Deep is as it was, its spare room too.
func TestDeepLeavesAll(t *testing.T) {
	make1 := func() api.Expr {
		kids := make([]api.Expr, 2, 4)
		kids[1] = api.Expr{Kind: api.Some, Kids: []api.Expr{{Kind: api.None}}}
		kids[:4][3].Text = "spare"
		return api.Expr{Kind: api.Pair, Kids: kids}
	}
	e, want := make1(), make1()
	if Deep(e) != 3 || Deep(e) != 3 {
		t.Error(Deep(e))
	}
	if !reflect.DeepEqual(e, want) || !reflect.DeepEqual(e.Kids[:4], want.Kids[:4]) {
		t.Error(e)
	}
}

func TestAskedAgain(t *testing.T) {
	for _, text := range []string{"", "domain 1 end", "domain end", "row v 9", "?", "domain " + ofDepth(61)[0] + " end", "domain x := 1; !x end"} {
		p, e, at := Parse(text)
		Parse("domain " + strings.Repeat("(", 90))
		again, e2, at2 := Parse(text)
		if e != e2 || at != at2 || !reflect.DeepEqual(p, again) {
			t.Errorf("%q: %d, %d, then %d, %d", text, e, at, e2, at2)
		}
	}
}
