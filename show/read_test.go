package show

import (
	"math/rand"
	"reflect"
	"strings"
	"testing"

	"selvage/api"
	"selvage/lex"
	"selvage/parse"
)

// P6.2: what is shown is read as the same program, but for places.

// unplaced: the same program without places, and with no list that is empty and not nil.
func unplaced(p api.Program) api.Program {
	var out api.Program
	for _, d := range p.Decls {
		d.At = 0
		out.Decls = append(out.Decls, d)
	}
	for _, e := range p.Domains {
		out.Domains = append(out.Domains, placed(e, 0))
	}
	return out
}

// wantRead: the program's text is read as the program, and that is shown as the same text.
func wantRead(t *testing.T, p api.Program) {
	t.Helper()
	s, e := Show(p)
	if e != api.OK || !Formed(p) {
		t.Errorf("%v: %d", p, e)
		return
	}
	q, e, at := parse.Parse(s)
	if e != api.OK || !reflect.DeepEqual(unplaced(q), unplaced(p)) {
		t.Errorf("%s: %d, %d, %v, not %v", short(s), e, at, q, p)
		return
	}
	if again, e := Show(q); e != api.OK || again != s || !Formed(q) {
		t.Errorf("%s is shown as %s, %d", short(s), short(again), e)
	}
}

func TestReadDeclarations(t *testing.T) {
	for _, n := range []int{-999999999, -1000, -5, -1, 0, 1, 5, 1000, 999999999} {
		for _, name := range goodNames() {
			wantRead(t, api.Program{Decls: decls(api.Decl{Kind: api.Cell, Name: name, N: n}, api.Decl{Kind: api.Atom, Name: name, N: n}, api.Decl{Kind: api.Row, Name: name, N: 1 + (n+1000000007)%8}), Domains: []api.Expr{unit}})
		}
	}
	for n := range 8 {
		wantRead(t, api.Program{Decls: rows(8-n, n+1), Domains: []api.Expr{unit, named("v"), num(n)}[:1+n%3]})
	}
	wantRead(t, api.Program{Decls: rows(2, 2, 2, 2, 2, 2, 2, 2), Domains: []api.Expr{unit, unit, unit}})
}

// Each kind in each place of each other, and that in each place of each other again.
func TestReadEachInEachOther(t *testing.T) {
	for _, inner := range samples() {
		wantRead(t, alone(inner))
		for _, middle := range holding(inner) {
			wantRead(t, alone(middle))
			for _, outer := range holding(middle) {
				wantRead(t, alone(outer))
			}
		}
	}
}

func TestReadDeep(t *testing.T) {
	for _, s := range samples() {
		for i := range s.Kids {
			if missing(s, i) {
				continue
			}
			wantRead(t, alone(chain(s, i, 60)))
			wantRead(t, alone(chain(s, i, 31)))
		}
	}
}

// What is read from a text is formed, and read as it was from the text that it is shown as.
func TestShownAgain(t *testing.T) {
	for text, want := range map[string]string{
		"domain x := 1; !x end":                                                                "domain ((x := 1); !x) end\n",
		"cell x=-5 row v 3 domain v.[1] <- 2 + 3 * f 4 end":                                    "cell x = - 5\nrow v 3\ndomain (v.[1] <- (2 + (3 * (f 4)))) end\n",
		"atom a = -0 domain ((((1)))) end domain 1;2;3 end":                                    "atom a = 0\ndomain 1 end\ndomain (1; (2; 3)) end\n",
		"domain 1 - 2 - 3 end domain 1 - (2 - 3) end":                                          "domain ((1 - 2) - 3) end\ndomain (1 - (2 - 3)) end\n",
		"domain f x y < g x * 2 end domain f (x y) = 8 / 4 * 2 end":                            "domain (((f x) y) < ((g x) * 2)) end\ndomain ((f (x y)) = ((8 / 4) * 2)) end\n",
		"domain match o with some n -> print n | none -> () end":                               "domain (match o with none -> () | some n -> (print n)) end\n",
		"domain match o with some n -> n end":                                                  "domain (match o with some n -> n) end\n",
		"domain match o with none -> match q with none -> 1|some n -> 2 end":                   "domain (match o with none -> (match q with none -> 1 | some n -> 2)) end\n",
		"domain match o with some m -> match q with none -> 1|some n -> 2|none -> 3 end":       "domain (match o with none -> 3 | some m -> (match q with none -> 1 | some n -> 2)) end\n",
		"domain match o with some m -> match q with (n, k) -> 2|none -> 3 end":                 "domain (match o with none -> 3 | some m -> (match q with (n, k) -> 2)) end\n",
		"domain let p = (1, true) in match p with (n, b) -> cas a n 2; () end":                 "domain (let p = (1, true) in ((match p with (n, b) -> (cas a n 2)); ())) end\n",
		"domain let f = fun x -> x + 1 in if f 1 = 2 then some f else none; 1 end":             "domain (let f = (fun x -> (x + 1)) in ((if ((f 1) = 2) then (some f) else none); 1)) end\n",
		"domain x := y := v.[w.[0]] <- swap a add b 1 end domain print print !x end # no more": "domain (x := (y := (v.[w.[0]] <- (swap a (add b 1))))) end\ndomain (print (print !x)) end\n",
		"domain cas a print 1 some false end domain (x; y, ()) end":                            "domain (cas a (print 1) (some false)) end\ndomain ((x; y), ()) end\n",
	} {
		p, e, at := parse.Parse(text)
		if e != api.OK {
			t.Errorf("%q: %d, %d", text, e, at)
			continue
		}
		wantShown(t, p, want)
		wantRead(t, p)
	}
}

// tree of names and loads (with a ! ahead) in apps, so many of them, balanced: as deep as need be.
func tree(l []string) api.Expr {
	if len(l) == 1 {
		if x, ok := strings.CutPrefix(l[0], "!"); ok {
			return load(x)
		}
		return named(l[0])
	}
	return node(api.App, tree(l[:len(l)/2]), tree(l[len(l)/2:]))
}

// A text of MaxText bytes is read; a longer one is shown as well, but it is too long.
func TestLongestTexts(t *testing.T) {
	for _, n := range []int{8191, 8192, 8193, 9000, 20000} {
		// A tree of apps of words of 16 bytes has 19 bytes for each word.
		l := make([]string, (n-9)/19+1)
		left := n - 9 - 3*len(l)
		for i := range l {
			l[i] = strings.Repeat("x", min(16, left-(len(l)-1-i)))
			left -= len(l[i])
		}
		wantLimit(t, alone(tree(l)), n, -1)
	}
}

// wantLimit: the program's text has so many bytes and words (-1: however many); it is read, or has more than may be read.
func wantLimit(t *testing.T, p api.Program, bytes, words int) {
	t.Helper()
	s, e := Show(p)
	if e != api.OK || len(s) != bytes && bytes >= 0 || !Formed(p) {
		t.Fatalf("%d, %d bytes, not %d", e, len(s), bytes)
	}
	if len(s) <= api.MaxText && words <= api.MaxTokens {
		l, _, _ := lex.Tokens(s)
		if len(l) != words && words >= 0 {
			t.Errorf("%d words, not %d", len(l), words)
		}
		wantRead(t, p)
		return
	}
	if _, e, _ := parse.Parse(s); e != api.ErrLimit {
		t.Errorf("%d bytes, %d words: %d", len(s), words, e)
	}
}

// A text of MaxTokens words is read; one of more is shown as well, but has too many.
func TestMostWords(t *testing.T) {
	for _, n := range []int{1499, 1500, 1501, 1502, 3000} {
		// A tree of apps has 3 words for each of its names, less 2; domain and end are 2 more; each load is one more than a name.
		l := make([]string, n/3)
		for i := range l {
			l[i] = "x"
			if i < n%3 {
				l[i] = "!x"
			}
		}
		wantLimit(t, alone(tree(l)), -1, n)
	}
}

// maker makes programs by chance.
type maker struct {
	r     *rand.Rand
	kinds []api.Expr // what it makes others of: samples
	names []string
	left  int // how many expressions more there may be, about
}

func newMaker(seed int64) *maker {
	return &maker{r: rand.New(rand.NewSource(seed)), kinds: samples(), names: append(goodNames(), "y", "v")}
}

func (m *maker) name() string { return m.names[m.r.Intn(len(m.names))] }

func (m *maker) program() api.Program {
	var p api.Program
	for range m.r.Intn(9) {
		d := api.Decl{Kind: 1 + m.r.Intn(3), Name: m.name(), N: 1 + m.r.Intn(2), At: m.r.Intn(99) - 9}
		if d.Kind != api.Row {
			d.N = []int{0, 1, -1, 42, -42, 999999999, -999999999}[m.r.Intn(7)]
		}
		p.Decls = append(p.Decls, d)
	}
	for range 1 + m.r.Intn(3) {
		p.Domains = append(p.Domains, m.expr(1+m.r.Intn(60)))
	}
	return p
}

// expr of at most that depth: a sample, with names, a number and kids by chance.
func (m *maker) expr(depth int) api.Expr {
	m.left--
	e := m.kinds[m.r.Intn(len(m.kinds))]
	for len(e.Kids) > 0 && (depth == 1 || m.left < 0) {
		e = m.kinds[m.r.Intn(len(m.kinds))]
	}
	e.At = m.r.Intn(99) - 9
	if usesName(e) {
		e.Text = m.name()
	}
	switch e.Kind {
	case api.Two:
		e.Other = m.name()
	case api.Num:
		e.N = []int{0, 1, 7, 10, 999999999}[m.r.Intn(5)]
	}
	kids := e.Kids
	e.Kids = nil
	for i := range kids {
		if missing(e, i) {
			e.Kids = append(e.Kids, api.Expr{Kind: api.Unit, At: m.r.Intn(99)})
			continue
		}
		e.Kids = append(e.Kids, m.expr(depth-1))
	}
	return e
}

// TestByChance: programs by chance have the text that the chapter's words make of them, and are read from it.
func TestByChance(t *testing.T) {
	m := newMaker(6)
	deepest, most := 0, 0
	for i := range 6000 {
		m.left = i % 200
		p := m.program()
		s, e := Show(p)
		want := ""
		for _, d := range p.Decls {
			want += decl(d) + "\n"
		}
		for _, d := range p.Domains {
			want += "domain " + said(d) + " end\n"
			deepest = max(deepest, parse.Deep(d))
		}
		if e != api.OK || s != want || !Formed(p) {
			t.Fatalf("%s, %d, not %s", short(s), e, short(want))
		}
		if l, e, _ := lex.Tokens(s); e == api.OK {
			most = max(most, len(l))
			wantRead(t, p)
		}
	}
	if deepest < 40 || most < 500 {
		t.Error("at most", deepest, "deep and", most, "words")
	}
}

// spoil one expression of a program by chance, in one of its parts.
func (m *maker) spoil(p *api.Program) {
	e := &p.Domains[m.r.Intn(len(p.Domains))]
	for len(e.Kids) > 0 && m.r.Intn(3) > 0 {
		e = &e.Kids[m.r.Intn(len(e.Kids))]
	}
	numbers := []int{-1, 0, 1, 2, 3, 4, 1000000000}
	switch m.r.Intn(5) {
	case 0:
		e.Kind = m.r.Intn(28) - 1
	case 1:
		e.Text = []string{"", "x", "let", "+", "/", "%", "abcdefghijklmnopq"}[m.r.Intn(7)]
	case 2:
		e.Other = []string{"", "x", "let", "+"}[m.r.Intn(4)]
	case 3:
		e.N = numbers[m.r.Intn(len(numbers))]
	case 4:
		e.Kids = append([]api.Expr{}, m.expr(1), m.expr(1), m.expr(1), m.expr(1))[:m.r.Intn(5)]
	}
}

// TestFormedByReading: a spoilt program is formed just if the text that the chapter's forms make of it is read as that program.
func TestFormedByReading(t *testing.T) {
	m := newMaker(7)
	count := map[bool]int{}
	for i := range 20000 {
		m.left = i % 15
		p := m.program()
		m.spoil(&p)
		var text strings.Builder
		for _, d := range p.Decls {
			text.WriteString(decl(d) + "\n")
		}
		for _, e := range p.Domains {
			text.WriteString("domain " + said(e) + " end\n")
		}
		q, e, _ := parse.Parse(text.String())
		want := e == api.OK && reflect.DeepEqual(unplaced(q), unplaced(p))
		count[want]++
		if Formed(p) != want {
			t.Fatalf("%q, %v: %v, not %v", text.String(), p, Formed(p), want)
		}
	}
	if count[true] < 1000 || count[false] < 1000 {
		t.Error(count)
	}
}
