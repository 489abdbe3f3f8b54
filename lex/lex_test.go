package lex

import (
	"math/big"
	"slices"
	"strconv"
	"strings"
	"testing"

	"dawdler/api"
)

func keyWords() []string {
	return strings.Fields("case of let in do dos if then else data")
}

func signs() []string {
	return strings.Fields(`-> <- == = < + - * / \ ( ) { } ; |`)
}

const (
	smalls = "abcdefghijklmnopqrstuvwxyz"
	greats = "ABCDEFGHIJKLMNOPQRSTUVWXYZ"
	digits = "0123456789"
)

// all tells whether each of s's bytes is one of those of a text.
func all(s, of string) bool {
	return strings.Trim(s, of) == ""
}

// kindOf is a token's kind by the chapter's words alone, 0 of what is none.
func kindOf(s string) int {
	switch {
	case s == "":
		return 0
	case slices.Contains(keyWords(), s), slices.Contains(signs(), s):
		return api.TKey
	case all(s, digits):
		if n, ok := new(big.Int).SetString(s, 10); !ok || !n.IsInt64() {
			return 0
		}
		return api.TInt
	case len(s) > 20 || !all(s, smalls+greats+digits):
		return 0
	case all(s[:1], smalls):
		return api.TName
	case all(s[:1], greats):
		return api.TCon
	}
	return 0
}

// longest is what stands at a text's beginning: the most digits, the most letters and digits, the longest sign, or else one byte.
func longest(s string) string {
	for _, of := range []string{digits, smalls + greats + digits} {
		if n := len(s) - len(strings.TrimLeft(s, of)); n > 0 {
			return s[:n]
		}
	}
	best := s[:1]
	for _, k := range signs() {
		if strings.HasPrefix(s, k) && len(k) > len(best) {
			best = k
		}
	}
	return best
}

// model is Lex by the chapter's words, place by place, without lines.
func model(src string) ([]api.Token, api.Place, api.Errno) {
	var l []api.Token
	p := api.Place{Line: 1, Col: 1}
	for src != "" {
		n := 1
		switch {
		case src[0] == 10:
			p.Line, p.Col = p.Line+1, 0
		case src[0] == 32:
		case strings.HasPrefix(src, "--"):
			if n = strings.IndexByte(src, 10); n < 0 {
				n = len(src)
			}
		default:
			s := longest(src)
			k := kindOf(s)
			if k == 0 || len(l) == 2000 {
				return nil, p, api.ErrLex
			}
			t := api.Token{Kind: k, Text: s, Line: p.Line, Col: p.Col}
			if k == api.TInt {
				t.Num, _ = strconv.Atoi(s)
			}
			l, n = append(l, t), len(s)
		}
		src, p.Col = src[n:], p.Col+n
	}
	return l, api.Place{}, api.OK
}

// checkModel holds Lex against the model, and P2.3 of what it made.
func checkModel(t *testing.T, src string) {
	t.Helper()
	l, p, e := Lex([]byte(src))
	wantL, wantP, wantE := model(src)
	if !slices.Equal(l, wantL) || p != wantP || e != wantE {
		t.Fatalf("Lex(%q) = %v, %v, %d; want %v, %v, %d", src, l, p, int(e), wantL, wantP, int(wantE))
	}
	checkAgain(t, l)
}

// checkAgain is P2.3: what Text tells of tokens that Lex made is the same tokens, in one line, with one byte 32 between.
func checkAgain(t *testing.T, l []api.Token) {
	t.Helper()
	text := Text(l)
	again, p, e := Lex([]byte(text))
	if e != api.OK || p != (api.Place{}) || len(again) != len(l) {
		t.Fatalf("Lex(%q) = %d tokens, %v, %d; want %d", text, len(again), p, int(e), len(l))
	}
	col := 1
	for i, a := range again {
		want := l[i]
		want.Line, want.Col = 1, col
		if a != want {
			t.Fatalf("Lex(%q): token %d is %+v; want %+v", text, i, a, want)
		}
		col += len(want.Text) + 1
	}
	if Text(again) != text {
		t.Fatalf("Text again: %q; want %q", Text(again), text)
	}
}

// checkTokens asks for just these tokens, each of them a text, and where it begins.
func checkTokens(t *testing.T, src string, want ...api.Token) {
	t.Helper()
	l, p, e := Lex([]byte(src))
	if e != api.OK || p != (api.Place{}) || !slices.Equal(l, want) {
		t.Errorf("Lex(%.60q) = %+v, %v, %d; want %+v", src, l, p, int(e), want)
	}
}

// checkTexts asks for tokens of just these texts.
func checkTexts(t *testing.T, src string, want ...string) {
	t.Helper()
	l, p, e := Lex([]byte(src))
	var got []string
	for _, x := range l {
		got = append(got, x.Text)
	}
	if e != api.OK || p != (api.Place{}) || !slices.Equal(got, want) {
		t.Errorf("Lex(%.60q) = %.200q, %v, %d; want %q", src, got, p, int(e), want)
	}
}

// checkWrong asks for ErrLex, no tokens, and a place.
func checkWrong(t *testing.T, src string, line, col int) {
	t.Helper()
	if l, p, e := Lex([]byte(src)); e != api.ErrLex || len(l) != 0 || p != (api.Place{Line: line, Col: col}) {
		t.Errorf("Lex(%.60q) = %d tokens, %v, %d; want none, %d %d, %d", src, len(l), p, int(e), line, col, int(api.ErrLex))
	}
}

func key(s string, line, col int) api.Token {
	return api.Token{Kind: api.TKey, Text: s, Line: line, Col: col}
}

func name(s string, line, col int) api.Token {
	return api.Token{Kind: api.TName, Text: s, Line: line, Col: col}
}

func con(s string, line, col int) api.Token {
	return api.Token{Kind: api.TCon, Text: s, Line: line, Col: col}
}

func number(s string, n, line, col int) api.Token {
	return api.Token{Kind: api.TInt, Text: s, Num: n, Line: line, Col: col}
}

// P2.1: the chapter's example.
func TestExample(t *testing.T) {
	checkTokens(t, `f = \x -> x+1 -- one`,
		name("f", 1, 1), key("=", 1, 3), key(`\`, 1, 5), name("x", 1, 6), key("->", 1, 8), name("x", 1, 11), key("+", 1, 12), number("1", 1, 1, 13))
}

// P2.1: each token alone is told, with its kind and its place; nothing of it is told twice.
func TestKinds(t *testing.T) {
	for _, s := range append(keyWords(), signs()...) {
		checkTokens(t, s, key(s, 1, 1))
		checkTokens(t, "\n "+s+" ", key(s, 2, 2))
	}
	for _, s := range []string{"x", "xY9", "z", "zZ0", "a1b2", "cases", "ofx", "dox", "doss", "iff", "dataA", "cASE", "main"} {
		checkTokens(t, s, name(s, 1, 1))
	}
	for _, s := range []string{"A", "Z", "Xy", "B2c", "Case", "Of", "DO", "Data", "If9"} {
		checkTokens(t, s, con(s, 1, 1))
	}
}

// P2.1: a text begins in line 1, column 1; a byte 10 ends a line, each other byte is one column.
func TestPlaces(t *testing.T) {
	checkTokens(t, "a\nb\n\n  C\n", name("a", 1, 1), name("b", 2, 1), con("C", 4, 3))
	checkTokens(t, "\n\n7", number("7", 7, 3, 1))
	checkTokens(t, "   x", name("x", 1, 4))
	checkTokens(t, "-- \xc3\xa9\t\r\n x", name("x", 2, 2))
	checkTokens(t, "ab(12 C)", name("ab", 1, 1), key("(", 1, 3), number("12", 12, 1, 4), con("C", 1, 7), key(")", 1, 8))
	checkTokens(t, strings.Repeat("\n", 70000)+strings.Repeat(" ", 70000)+"x", name("x", 70001, 70001))
}

// P2.1: a text without a token has none, and that is no error.
func TestNothing(t *testing.T) {
	for _, src := range []string{"", " ", "\n", "\n\n", "  \n  ", "--", "-- one", "--\n", "--\n--", "---", "-->", " --?\n\n --\xff"} {
		checkTokens(t, src)
	}
	if l, p, e := Lex(nil); len(l) != 0 || p != (api.Place{}) || e != api.OK {
		t.Errorf("Lex(nil) = %v, %v, %d", l, p, int(e))
	}
}

// P2.1: the last line is one too, with a byte 10 at its end and without.
func TestLastLine(t *testing.T) {
	checkTokens(t, "a\nbc", name("a", 1, 1), name("bc", 2, 1))
	checkTokens(t, "a\nbc\n", name("a", 1, 1), name("bc", 2, 1))
	checkTokens(t, "a\n12", name("a", 1, 1), number("12", 12, 2, 1))
	checkTokens(t, "a\n<-", name("a", 1, 1), key("<-", 2, 1))
	checkTokens(t, "a\n<", name("a", 1, 1), key("<", 2, 1))
	checkWrong(t, "a\n?", 2, 1)
	checkWrong(t, "a\n?\n", 2, 1)
}

// P2.1: a comment goes up to the next byte 10, not with it, or to the end, whatever bytes are in it; one of a sign's bytes begins none.
func TestComments(t *testing.T) {
	checkTokens(t, "a -- b\nc", name("a", 1, 1), name("c", 2, 1))
	checkTokens(t, "a--b\nc--", name("a", 1, 1), name("c", 2, 1))
	checkTokens(t, "a --\n--\nc -- ? \x00\xff\t\r", name("a", 1, 1), name("c", 3, 1))
	checkTexts(t, "a --- b\n- -c", "a", "-", "-", "c")
	checkTexts(t, "x-->1", "x")
	checkTexts(t, "x<--1", "x", "<-", "-", "1")
	checkTexts(t, "x<---1", "x", "<-")
	checkTexts(t, "x=--1", "x", "=")
	checkTexts(t, "x->--1", "x", "->")
	checkTexts(t, "a-\n-b", "a", "-", "-", "b")
	checkTokens(t, "-- "+strings.Repeat("?", 100000)+"\nx", name("x", 2, 1))
	checkTexts(t, strings.Repeat("x -- "+strings.Repeat("a ", 3000)+"\n", 3), "x", "x", "x")
}

// P2.1: of signs the longest one, and a gap parts what would be one.
func TestLongestSign(t *testing.T) {
	checkTexts(t, "a->b", "a", "->", "b")
	checkTexts(t, "===", "==", "=")
	checkTexts(t, "====", "==", "==")
	checkTexts(t, "= =", "=", "=")
	checkTexts(t, "=\n=", "=", "=")
	checkTexts(t, "<=", "<", "=")
	checkTexts(t, "< -", "<", "-")
	checkTexts(t, "<<-", "<", "<-")
	checkTexts(t, "->->", "->", "->")
	checkTexts(t, "+-*/", "+", "-", "*", "/")
	checkTexts(t, `\({;|})`, `\`, "(", "{", ";", "|", "}", ")")
	checkWrong(t, "- >", 1, 3)
	checkWrong(t, "<->", 1, 3)
	checkWrong(t, "=>", 1, 2)
	checkWrong(t, "->>", 1, 3)
}

// P2.1: of a digit as many digits as there are, up to 2^63 - 1; what is ahead of others as a 0 counts nothing, but is told in Text.
func TestNumbers(t *testing.T) {
	const most = 1<<63 - 1
	checkTokens(t, "0", number("0", 0, 1, 1))
	checkTokens(t, "007", number("007", 7, 1, 1))
	checkTokens(t, "1234567890", number("1234567890", 1234567890, 1, 1))
	checkTokens(t, "9223372036854775806", number("9223372036854775806", most-1, 1, 1))
	checkTokens(t, "9223372036854775807", number("9223372036854775807", most, 1, 1))
	checkTokens(t, "x 9223372036854775807\n", name("x", 1, 1), number("9223372036854775807", most, 1, 3))
	checkWrong(t, "9223372036854775808", 1, 1)
	checkWrong(t, "x\n 9223372036854775808", 2, 2)
	checkWrong(t, "18446744073709551615", 1, 1)
	checkWrong(t, "18446744073709551616", 1, 1)
	checkWrong(t, "18446744073709551617", 1, 1)
	checkWrong(t, strings.Repeat("9", 100000), 1, 1)
	zeros := strings.Repeat("0", 100000)
	checkTokens(t, zeros, number(zeros, 0, 1, 1))
	checkTokens(t, zeros+"9223372036854775807", number(zeros+"9223372036854775807", most, 1, 1))
	checkWrong(t, zeros+"9223372036854775808", 1, 1)
	checkTokens(t, "12ab", number("12", 12, 1, 1), name("ab", 1, 3))
	checkTokens(t, "0x1", number("0", 0, 1, 1), name("x1", 1, 2))
	checkTokens(t, "-1", key("-", 1, 1), number("1", 1, 1, 2))
	checkTokens(t, "1E5", number("1", 1, 1, 1), con("E5", 1, 2))
	checkWrong(t, "1_000", 1, 2)
	checkWrong(t, "1.5", 1, 2)
}

// P2.1: names and constructors have at most MaxName bytes; what is wrong is where they begin.
func TestLongNames(t *testing.T) {
	a20, b20 := strings.Repeat("a", 20), "B"+strings.Repeat("9", 19)
	checkTokens(t, a20, name(a20, 1, 1))
	checkTokens(t, b20, con(b20, 1, 1))
	checkTokens(t, a20+" "+b20+"\n"+a20, name(a20, 1, 1), con(b20, 1, 22), name(a20, 2, 1))
	checkTokens(t, "9"+a20, number("9", 9, 1, 1), name(a20, 1, 2))
	checkWrong(t, a20+"a", 1, 1)
	checkWrong(t, a20+"9", 1, 1)
	checkWrong(t, b20+"Z", 1, 1)
	checkWrong(t, "x\n  y "+a20+a20, 2, 5)
	checkWrong(t, "case"+a20, 1, 1)
	checkWrong(t, a20+strings.Repeat("b", 100000), 1, 1)
	checkWrong(t, a20+"_", 1, 21)
}

// P2.1: there are MaxTokens tokens; the place is that of the one behind. Gaps and comments behind them are none.
func TestManyTokens(t *testing.T) {
	full := strings.Repeat("a ", 2000)
	for _, behind := range []string{"", " ", "\n", "-- a a", "--\n", "\n\n-- ?"} {
		if l, p, e := Lex([]byte(full + behind)); len(l) != 2000 || p != (api.Place{}) || e != api.OK {
			t.Errorf("with %q behind: %d tokens, %v, %d", behind, len(l), p, int(e))
		}
	}
	for _, one := range []string{"a", "A", "1", "of", "->", "?", strings.Repeat("a", 21), "9223372036854775808", "a ?", "a a"} {
		checkWrong(t, full+one, 1, 4001)
		checkWrong(t, full+"-- b\n  "+one, 2, 3)
	}
	signs := strings.Repeat("(", 2000)
	if l, _, e := Lex([]byte(signs)); len(l) != 2000 || e != api.OK {
		t.Errorf("%d signs, %d", len(l), int(e))
	}
	checkWrong(t, signs+"(", 1, 2001)
	lines := strings.Repeat("a\n", 2000)
	if l, _, e := Lex([]byte(lines)); len(l) != 2000 || e != api.OK {
		t.Errorf("%d lines, %d", len(l), int(e))
	}
	checkWrong(t, lines+"a", 2001, 1)
	checkWrong(t, strings.Repeat("a\n", 100000), 2001, 1)
}

// P2.1: with which bytes a token begins, of all there are.
func TestBytes(t *testing.T) {
	const begins = smalls + greats + digits + `-<=+*/\(){};|`
	for b := range 256 {
		s := string([]byte{byte(b)})
		switch {
		case b == 10 || b == 32:
			checkTokens(t, s)
		case strings.Contains(begins, s):
			checkTexts(t, s, s)
		default:
			checkWrong(t, s, 1, 1)
			checkWrong(t, "x"+s, 1, 2)
			checkWrong(t, "x\n\n = "+s+" y", 3, 4)
		}
	}
	checkWrong(t, "\xc3\xa9", 1, 1)
	checkWrong(t, "a\xc3\xa9", 1, 2)
	checkWrong(t, "a_b", 1, 2)
	checkWrong(t, "x'", 1, 2)
}

// P2.1: of several that there can't be the first one is told.
func TestFirstWrong(t *testing.T) {
	checkWrong(t, "a ? 9223372036854775808", 1, 3)
	checkWrong(t, "a 9223372036854775808 ?", 1, 3)
	checkWrong(t, "a\n"+strings.Repeat("b", 21)+"\n?", 2, 1)
	checkWrong(t, strings.Repeat("a ", 1999)+"? "+strings.Repeat("a ", 10), 1, 3999)
	checkWrong(t, "-- ?\n?", 2, 1)
}

// P2.1, P2.3: all texts of up to five bytes of some, held against the chapter's words.
func TestShortTexts(t *testing.T) {
	const some = "aZ0-><= \n?"
	var grow func(s string, n int)
	grow = func(s string, n int) {
		checkModel(t, s)
		for i := range len(some) {
			if n > 0 {
				grow(s+some[i:i+1], n-1)
			}
		}
	}
	grow("", 5)
}

// pieces are what longer texts are put together of; some of them can't be.
func pieces() []string {
	l := append(keyWords(), signs()...)
	l = append(l, l...)
	l = append(l, " ", "\n", "  ", "\n ", "--", "-- x ?\n", "0", "7", "42", "007", "x", "xs", "Cons", "N", "a1B2", "9223372036854775807", strings.Repeat("q", 20))
	l = append(l, l...)
	return append(l, "?", ">", "\xff", "9223372036854775808", strings.Repeat("q", 21))
}

// P2.1, P2.3: longer texts (the same ones every time), held against the chapter's words.
func TestLongTexts(t *testing.T) {
	l := pieces()
	seed := uint64(2)
	next := func(n int) int {
		seed = seed*6364136223846793005 + 1442695040888963407
		return int(seed>>33) % n
	}
	for range 3000 {
		var b strings.Builder
		gap := next(2) == 0
		for range next(40) {
			b.WriteString(l[next(len(l))])
			if gap {
				b.WriteByte(' ')
			}
		}
		checkModel(t, b.String())
	}
}

// P2.3: with as many tokens as there may be, each as long as it may be.
func TestAgainAtTheEdge(t *testing.T) {
	for _, src := range []string{
		strings.Repeat("-\n", 2000),
		strings.Repeat("<\n-\n", 1000),
		strings.Repeat("="+strings.Repeat("x", 20)+"(9223372036854775807", 500),
		"do\n  a <- 007 -- b\n  dos\n",
		"",
	} {
		l, _, e := Lex([]byte(src))
		if e != api.OK {
			t.Fatalf("Lex(%.40q): %d", src, int(e))
		}
		checkAgain(t, l)
		if strings.Contains(Text(l), "\n") {
			t.Errorf("Text of %.40q has a line's end", src)
		}
	}
}

// R4: the text is neither changed nor kept, nor is its spare room; two answers share nothing.
func TestOwnMemory(t *testing.T) {
	const text = "let xs = 42 in Cons"
	room := []byte(text + " ????")
	src := room[:len(text)]
	one, _, e := Lex(src)
	if e != api.OK || string(room) != text+" ????" {
		t.Fatalf("%d, %q", int(e), room)
	}
	two, _, _ := Lex(src)
	want := slices.Clone(one)
	for i := range room {
		room[i] = 'z'
	}
	if !slices.Equal(one, want) || Text(one) != text {
		t.Errorf("kept: %v", one)
	}
	for i := range two {
		two[i] = api.Token{}
	}
	if !slices.Equal(one, want) {
		t.Errorf("shared: %v", one)
	}
}
