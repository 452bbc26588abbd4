package lex

import (
	"math/rand"
	"regexp"
	"slices"
	"strconv"
	"strings"
	"testing"
	"unsafe"

	"selvage/api"
)

// The lists of the chapter, written out once more.
const theKeys = "cell atom row domain end let in if then else fun match with none some true false print swap add cas"
const theSigns = ":= <- -> .[ ( ) ] ; , ! | = < + - * /"

// What stands between words; what a word is, the longer signs first; which numbers may be; a letter at the front.
var (
	gapForm    = regexp.MustCompile(`^(?:[ \t\n\r]|#[^\n]*)+`)
	wordForm   = regexp.MustCompile(`^(?:[a-z][a-z0-9]*|[0-9]+|:=|<-|->|\.\[|[()\];,!|=<+*/-])`)
	numForm    = regexp.MustCompile(`^(?:0|[1-9][0-9]{0,8})$`)
	letterForm = regexp.MustCompile(`^[a-z]`)
)

// expected is what the chapter says of a text, worked out by patterns.
func expected(text string) ([]api.Token, api.Errno, int) {
	if len(text) > 8192 {
		return nil, api.ErrLimit, 0
	}
	var out []api.Token
	for at := 0; ; {
		at += matchLength(gapForm, text[at:])
		if at == len(text) {
			return out, api.OK, 0
		}
		n := matchLength(wordForm, text[at:])
		t := token(text[at:at+n], at)
		switch {
		case n == 0,
			t.Kind == api.Number && (!numForm.MatchString(t.Text) || letterForm.MatchString(text[at+n:])),
			t.Kind == api.Word && n > 16:
			return nil, api.ErrLex, at
		case len(out) == 1500:
			return nil, api.ErrLimit, at
		}
		out = append(out, t)
		at += n
	}
}

// matchLength counts bytes as patterns take them: one that is no UTF-8 is one of its own.
func matchLength(p *regexp.Regexp, s string) int { return len(p.FindString(s)) }

func token(s string, at int) api.Token {
	switch {
	case s == "":
		return api.Token{}
	case slices.Contains(strings.Fields(theKeys), s):
		return api.Token{Kind: api.Key, Text: s, At: at}
	case 'a' <= s[0] && s[0] <= 'z':
		return api.Token{Kind: api.Word, Text: s, At: at}
	case '0' <= s[0] && s[0] <= '9':
		n, _ := strconv.Atoi(s)
		return api.Token{Kind: api.Number, Text: s, N: n, At: at}
	}
	return api.Token{Kind: api.Sign, Text: s, At: at}
}

func short(s string) string {
	if len(s) > 60 {
		return strconv.Quote(s[:60]) + ".. of " + strconv.Itoa(len(s)) + " bytes"
	}
	return strconv.Quote(s)
}

// wantTokens: the text is these words, and no error.
func wantTokens(t *testing.T, text string, want []api.Token) {
	t.Helper()
	l, e, at := Tokens(text)
	if e != api.OK || at != 0 || !slices.Equal(l, want) {
		t.Errorf("%s: %v, %d, %d, not %v", short(text), l, e, at, want)
	}
}

// wantFault: the text has this error at this place, and no words.
func wantFault(t *testing.T, text string, fault api.Errno, place int) {
	t.Helper()
	l, e, at := Tokens(text)
	if e != fault || at != place || len(l) != 0 {
		t.Errorf("%s: %d words, %d, %d, not %d, %d", short(text), len(l), e, at, fault, place)
	}
}

func wantExpected(t *testing.T, text string) {
	t.Helper()
	want, fault, place := expected(text)
	l, e, at := Tokens(text)
	if e != fault || at != place || !slices.Equal(l, want) {
		t.Errorf("%s: %v, %d, %d, not %v, %d, %d", short(text), l, e, at, want, fault, place)
	}
}

func aName(s string, at int) api.Token { return api.Token{Kind: api.Word, Text: s, At: at} }
func aKey(s string, at int) api.Token  { return api.Token{Kind: api.Key, Text: s, At: at} }
func aSign(s string, at int) api.Token { return api.Token{Kind: api.Sign, Text: s, At: at} }
func aNumber(s string, n, at int) api.Token {
	return api.Token{Kind: api.Number, Text: s, N: n, At: at}
}

// P4.1: ordinary texts, with each kind of word, with blanks and remarks between words or none.

func TestOrdinary(t *testing.T) {
	wantTokens(t, "x:=1", []api.Token{aName("x", 0), aSign(":=", 1), aNumber("1", 1, 3)})
	wantTokens(t, "a.[0]", []api.Token{aName("a", 0), aSign(".[", 1), aNumber("0", 0, 3), aSign("]", 4)})
	wantTokens(t, "cell x = 0\ndomain print !x end # all\n", []api.Token{
		aKey("cell", 0), aName("x", 5), aSign("=", 7), aNumber("0", 0, 9),
		aKey("domain", 11), aKey("print", 18), aSign("!", 24), aName("x", 25), aKey("end", 27)})
	wantTokens(t, "\t\r\n x1#let 5 ?\n2\r#\n#\n\n\tlet", []api.Token{aName("x1", 4), aNumber("2", 2, 15), aKey("let", 23)})
	wantTokens(t, "(a1,42);fun b2->b2*b2/3-x<y|z", []api.Token{
		aSign("(", 0), aName("a1", 1), aSign(",", 3), aNumber("42", 42, 4), aSign(")", 6), aSign(";", 7),
		aKey("fun", 8), aName("b2", 12), aSign("->", 14), aName("b2", 16), aSign("*", 18), aName("b2", 19),
		aSign("/", 21), aNumber("3", 3, 22), aSign("-", 23), aName("x", 24), aSign("<", 25), aName("y", 26),
		aSign("|", 27), aName("z", 28)})
}

func TestWordsOfTheLanguage(t *testing.T) {
	for _, k := range strings.Fields(theKeys) {
		wantTokens(t, k, []api.Token{aKey(k, 0)})
		wantTokens(t, " "+k+"#"+k, []api.Token{aKey(k, 1)})
		// A name is as long as it may be, whatever word it begins or ends with.
		for _, s := range []string{k + "s", k + "1", "x" + k, k + k} {
			wantTokens(t, s, []api.Token{aName(s, 0)})
		}
		wantTokens(t, k[:len(k)-1]+" "+k[len(k)-1:], []api.Token{token(k[:len(k)-1], 0), aName(k[len(k)-1:], len(k))})
	}
}

func TestNothing(t *testing.T) {
	for _, text := range []string{"", " ", "\t", "\n", "\r", " \t\n\r ", "#", "##", "# x", "#\n", "# x\n", "# ? 01 1a\n # :\r.", "#\r", "#\x00\xff\u00e9", strings.Repeat(" ", 8192), "#" + strings.Repeat("?", 8191)} {
		wantTokens(t, text, nil)
	}
}

func TestRemarks(t *testing.T) {
	wantTokens(t, "x#", []api.Token{aName("x", 0)})
	wantTokens(t, "x# y", []api.Token{aName("x", 0)})
	wantTokens(t, "x#y\nz", []api.Token{aName("x", 0), aName("z", 4)})
	wantTokens(t, "x#y\rz", []api.Token{aName("x", 0)})
	wantTokens(t, "x#y#z\n#\nw", []api.Token{aName("x", 0), aName("w", 8)})
	// A remark parts words that stood as one else.
	wantTokens(t, "1#\na", []api.Token{aNumber("1", 1, 0), aName("a", 3)})
	wantTokens(t, "<#\n-", []api.Token{aSign("<", 0), aSign("-", 3)})
	wantTokens(t, "le#\nt", []api.Token{aName("le", 0), aName("t", 4)})
}

func TestSigns(t *testing.T) {
	for _, s := range strings.Fields(theSigns) {
		wantTokens(t, s, []api.Token{aSign(s, 0)})
		wantTokens(t, "a"+s+"b", []api.Token{aName("a", 0), aSign(s, 1), aName("b", 1+len(s))})
	}
}

func TestLongerSignsFirst(t *testing.T) {
	wantTokens(t, "<-", []api.Token{aSign("<-", 0)})
	wantTokens(t, "< -", []api.Token{aSign("<", 0), aSign("-", 2)})
	wantTokens(t, "<--", []api.Token{aSign("<-", 0), aSign("-", 2)})
	wantTokens(t, "<<-", []api.Token{aSign("<", 0), aSign("<-", 1)})
	wantTokens(t, "-->", []api.Token{aSign("-", 0), aSign("->", 1)})
	wantTokens(t, ":==", []api.Token{aSign(":=", 0), aSign("=", 2)})
	wantTokens(t, "a<-1", []api.Token{aName("a", 0), aSign("<-", 1), aNumber("1", 1, 3)})
	wantTokens(t, ".[:=<-->", []api.Token{aSign(".[", 0), aSign(":=", 2), aSign("<-", 4), aSign("->", 6)})
	// What is left behind a longer one may be none.
	wantFault(t, "<->", api.ErrLex, 2)
	for text, at := range map[string]int{":": 0, ": =": 0, "x :": 2, "::=": 0, ".": 0, ". [": 0, "[": 0, "x[0]": 1, ">": 0, "=>": 1, "- >": 2, "..[": 0} {
		wantFault(t, text, api.ErrLex, at)
	}
}

func TestEachByteAlone(t *testing.T) {
	for b := range 256 {
		text := string([]byte{byte(b)})
		switch {
		case strings.Contains(" \t\n\r#", text):
			wantTokens(t, text, nil)
		case strings.Contains("abcdefghijklmnopqrstuvwxyz", text):
			wantTokens(t, text, []api.Token{aName(text, 0)})
		case strings.Contains("0123456789", text):
			wantTokens(t, text, []api.Token{aNumber(text, b-'0', 0)})
		case strings.Contains("()];,!|=<+-*/", text):
			wantTokens(t, text, []api.Token{aSign(text, 0)})
		default:
			wantFault(t, text, api.ErrLex, 0)
			wantFault(t, "let x"+text+" y", api.ErrLex, 5)
		}
	}
}

func TestNumbers(t *testing.T) {
	for s, n := range map[string]int{"0": 0, "7": 7, "10": 10, "100": 100, "123456789": 123456789, "999999999": 999999999, "100000000": 100000000} {
		wantTokens(t, s, []api.Token{aNumber(s, n, 0)})
		wantTokens(t, "-"+s+"-x", []api.Token{aSign("-", 0), aNumber(s, n, 1), aSign("-", 1+len(s)), aName("x", 2+len(s))})
		wantTokens(t, s+" x", []api.Token{aNumber(s, n, 0), aName("x", 1+len(s))})
		for _, behind := range []string{"a", "z", "a1", "let", "x:="} {
			wantFault(t, s+behind, api.ErrLex, 0)
			wantFault(t, "x "+s+behind, api.ErrLex, 2)
		}
	}
	for _, s := range []string{"1000000000", "1234567890", "9999999999", "00", "01", "000", "007", "0123456789", "000000000", "0000000000", "18446744073709551617", strings.Repeat("1", 8190), strings.Repeat("0", 8190)} {
		wantFault(t, s, api.ErrLex, 0)
		wantFault(t, "x "+s, api.ErrLex, 2)
	}
	// Letters are a to z: another byte behind a number is told for itself.
	for _, s := range []string{"A", "_", "?", "\u00e9", "\x00", "."} {
		wantFault(t, "12"+s, api.ErrLex, 2)
	}
}

func TestNames(t *testing.T) {
	for _, s := range []string{"a", "z", "a0", "z9", "x1y2", "abcdefghijklmnop", "a234567890123456", "abcdefghij123456"} {
		wantTokens(t, s, []api.Token{aName(s, 0)})
		wantTokens(t, "!"+s+"!", []api.Token{aSign("!", 0), aName(s, 1), aSign("!", 1+len(s))})
	}
	for _, s := range []string{"abcdefghijklmnopq", "a2345678901234567", "abcdefghijklmnopqrstuvwxyz", strings.Repeat("a", 8190), strings.Repeat("let", 6), "domaindomaindomai"} {
		wantFault(t, s, api.ErrLex, 0)
		wantFault(t, "x "+s, api.ErrLex, 2)
	}
	wantFault(t, "Let", api.ErrLex, 0)
	wantFault(t, "leT", api.ErrLex, 2)
	wantFault(t, "a_b", api.ErrLex, 1)
	wantFault(t, "caf\u00e9", api.ErrLex, 3)
}

func TestManyWords(t *testing.T) {
	for _, w := range []string{"x ", "1 ", "in ", ";", ":=", "!#\n", " +"} {
		most := strings.Repeat(w, 1500)
		l, e, at := Tokens(most)
		if e != api.OK || at != 0 || len(l) != 1500 {
			t.Errorf("1500 of %q: %d words, %d, %d", w, len(l), e, at)
		}
		wantExpected(t, most)
		wantExpected(t, most+" \n#"+w)
		wantFault(t, most+" x", api.ErrLimit, len(most)+1)
		wantFault(t, most+"#\n;", api.ErrLimit, len(most)+2)
		wantFault(t, strings.Repeat(w, 1501), api.ErrLimit, len(most)+len(w)-len(strings.TrimLeft(w, " ")))
		wantFault(t, strings.Repeat(w, 2000), api.ErrLimit, len(most)+len(w)-len(strings.TrimLeft(w, " ")))
	}
}

func TestLongTexts(t *testing.T) {
	wantTokens(t, "x"+strings.Repeat(" ", 8190)+"y", []api.Token{aName("x", 0), aName("y", 8191)})
	wantTokens(t, "x#"+strings.Repeat("y", 8190), []api.Token{aName("x", 0)})
	wantFault(t, strings.Repeat(" ", 8191)+"?", api.ErrLex, 8191)
	for _, text := range []string{
		strings.Repeat(" ", 8193), "x" + strings.Repeat(" ", 8191) + "y", "#" + strings.Repeat("y", 8192), strings.Repeat(";", 8193),
		strings.Repeat("?", 8193), "01" + strings.Repeat(" ", 8191), strings.Repeat("a", 8193), strings.Repeat(" ", 1<<20)} {
		wantFault(t, text, api.ErrLimit, 0)
	}
}

// TestWhichFault: the first from the front on is told; of those at one place the one that the chapter names first.
func TestWhichFault(t *testing.T) {
	for text, at := range map[string]int{
		"x ? 01": 2, "x 01 ?": 2, "? ?": 0, "1a ?": 0, "abcdefghijklmnopq 01": 0, "01 abcdefghijklmnopq": 0, "x 1234567890a?": 2,
		"# ?\n?": 4, "x:=01": 3, "a.[00]": 3, "9abcdefghijklmnopqrs": 0,
	} {
		wantFault(t, text, api.ErrLex, at)
	}
	most := strings.Repeat(";", 1500)
	for _, s := range []string{"?", "01", "1a", "1234567890", "abcdefghijklmnopq", ":", "."} {
		wantFault(t, most+s, api.ErrLex, 1500)
		wantFault(t, most+" "+s, api.ErrLex, 1501)
		wantFault(t, most+"x "+s, api.ErrLimit, 1500)
		wantFault(t, s+most, api.ErrLex, 0)
		wantFault(t, most[:1499]+s+";", api.ErrLex, 1499)
		wantFault(t, most+s+strings.Repeat(" ", 8192), api.ErrLimit, 0)
	}
}

// P4.1 as a whole: each text of two bytes, all short ones out of a few bytes, and longer ones by chance, are what the patterns say.

func TestEachTwoBytes(t *testing.T) {
	for a := range 256 {
		for b := range 256 {
			wantExpected(t, string([]byte{byte(a), byte(b)}))
		}
	}
}

func TestShortTexts(t *testing.T) {
	const few = "a0z9:=<->.[] #\n?"
	var grow func(text string)
	grow = func(text string) {
		wantExpected(t, text)
		if len(text) < 4 {
			for i := range len(few) {
				grow(text + few[i:i+1])
			}
		}
	}
	grow("")
}

// pieces that texts by chance are made of; the first good ones make no fault with a blank behind each.
func pieces() (all []string, good int) {
	all = append(strings.Fields(theKeys), strings.Fields(theSigns)...)
	all = append(all, "x", "y1", "abcdefghijklmnop", "0", "1", "42", "999999999", "z")
	good = len(all)
	return append(all, "?", "01", "1a", ":", ".", "[", ">", "A", "\x00", "\xff", "\u00e9", "1234567890", "abcdefghijklmnopq"), good
}

func blanks() []string {
	return []string{" ", "\n", "\t", "\r", "  ", "# x ?\n", "#\n", "\r\n", " #01\r\n "}
}

func TestTextsByChance(t *testing.T) {
	r := rand.New(rand.NewSource(4))
	all, good := pieces()
	for i := range 20000 {
		var b strings.Builder
		for range r.Intn(30) {
			n := good
			if r.Intn(40) == 0 {
				n = len(all)
			}
			b.WriteString(all[r.Intn(n)])
			if r.Intn(4) > 0 || i%2 == 0 {
				b.WriteString(blanks()[r.Intn(len(blanks()))])
			}
		}
		wantExpected(t, b.String())
	}
}

// P4.2

func TestIsName(t *testing.T) {
	for _, s := range []string{"a", "z", "x1", "a0", "z9z", "lets", "le", "cel", "cells", "ifx", "if1", "ends", "xend", "truefalse", "abcdefghijklmno", "abcdefghijklmnop", "a234567890123456"} {
		if !IsName(s) {
			t.Errorf("%q is a name", s)
		}
	}
	for _, s := range []string{
		"", "0", "1", "1a", "01", "abcdefghijklmnopq", "a2345678901234567", strings.Repeat("a", 100000),
		" ", " a", "a ", "a b", "\na", "a\n", "a\t", "a\r", "a#", "#a", "a#b", "#", "a;", "!a", "a!", "a.[", ":=", "-", "a-b",
		"A", "aB", "Ab", "_", "a_b", "_a", "a'", "?", "\x00", "a\x00", "\u00e9", "caf\u00e9", "\xff", "a\xff", "`", "{", "a`", "a{", "a/", "a:", "Let", "LET", "let ", " let"} {
		if IsName(s) {
			t.Errorf("%q is no name", s)
		}
	}
	for _, k := range strings.Fields(theKeys) {
		if IsName(k) || !IsName(k+"x") || !IsName("x"+k) || !IsName(k+"0") || IsName("0"+k) || IsName(k+" ") {
			t.Errorf("%q is a word of the language", k)
		}
	}
	for n := range 40 {
		if IsName(strings.Repeat("q", n)) != (1 <= n && n <= 16) {
			t.Errorf("of %d bytes", n)
		}
	}
}

// TestIsNameByTokens: a name is what is read as one Word and nothing beside it; of all bytes at each place of a short text.
func TestIsNameByTokens(t *testing.T) {
	for a := range 256 {
		for b := range 256 {
			for _, s := range []string{string([]byte{byte(a)}), string([]byte{byte(a), byte(b)}), string([]byte{'x', byte(a), byte(b)}), string([]byte{byte(a), 'l', byte(b)})} {
				l, e, _ := Tokens(s)
				if want := e == api.OK && len(l) == 1 && l[0] == aName(s, 0); IsName(s) != want {
					t.Errorf("%q: %v, not %v", s, IsName(s), want)
				}
			}
		}
	}
}

// P4.3

// TestReadAsTheyAre: words with any blanks between them are read as they are, in their places.
func TestReadAsTheyAre(t *testing.T) {
	r := rand.New(rand.NewSource(5))
	all, good := pieces()
	for range 5000 {
		text := ""
		var want []api.Token
		for range r.Intn(40) {
			w := all[r.Intn(good)]
			want = append(want, token(w, len(text)))
			text += w + blanks()[r.Intn(len(blanks()))]
		}
		wantTokens(t, text, want)
	}
}

// TestNoOverlap: the words of a text stand one behind the other, each with its own bytes, and between them are blanks alone.
func TestNoOverlap(t *testing.T) {
	r := rand.New(rand.NewSource(6))
	const bytes = "ab01:=<-.[]>() #\n;let"
	read := 0
	for range 50000 {
		b := make([]byte, r.Intn(12))
		for i := range b {
			b[i] = bytes[r.Intn(len(bytes))]
		}
		text := string(b)
		l, e, _ := Tokens(text)
		if e != api.OK {
			continue
		}
		read++
		end := 0
		for _, w := range append(l, api.Token{At: len(text)}) {
			if w.At < end || text[w.At:w.At+len(w.Text)] != w.Text {
				t.Fatalf("%q: %v", text, l)
			}
			if between := text[end:w.At]; matchLength(gapForm, between) != len(between) {
				t.Fatalf("%q: %v leaves out %q", text, l, between)
			}
			end = w.At + len(w.Text)
		}
	}
	if read < 1000 {
		t.Error("only", read, "texts have words")
	}
}

// Rules that hold everywhere.

// TestNewMemory: a text whose bytes become others behind the call leaves its words as they were, and no two answers share a list.
func TestNewMemory(t *testing.T) {
	b := []byte("let x1 := 42 in x1 + 7 # end")
	want, _, _ := expected(string(b))
	text := unsafe.String(&b[0], len(b))
	l, e, at := Tokens(text)
	other, _, _ := Tokens(text)
	for i := range b {
		b[i] = '?'
	}
	if e != api.OK || at != 0 || !slices.Equal(l, want) {
		t.Error(l, e, at)
	}
	clear(l[:cap(l)])
	if !slices.Equal(other, want) {
		t.Error(other)
	}
}

func TestAskedAgain(t *testing.T) {
	for _, text := range []string{"", "x:=1", "x ?", strings.Repeat(";", 1501), strings.Repeat(" ", 8193), "x:=1"} {
		wantExpected(t, text)
		wantExpected(t, text)
	}
}
