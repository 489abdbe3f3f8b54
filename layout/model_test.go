package layout

import (
	"math"
	"slices"
	"strings"
	"testing"

	"dawdler/api"
	"dawdler/lex"
)

// rules is Layout by the chapter's words: a block is a text, ( or { or a column's name, and each rule looks at all of them.
type rules struct {
	blocks []string
	cols   []int // beside each block; 0 of a bracket
	told   []api.Token
}

func (r *rules) lastIsColumn() bool {
	return len(r.blocks) > 0 && r.blocks[len(r.blocks)-1] == "column"
}
func (r *rules) lastIs(s string) bool {
	return len(r.blocks) > 0 && r.blocks[len(r.blocks)-1] == s
}

func (r *rules) lastCol() int { return r.cols[len(r.cols)-1] }

func (r *rules) open(s string, col int) {
	r.blocks, r.cols = append(r.blocks, s), append(r.cols, col)
}

func (r *rules) close() {
	r.blocks, r.cols = r.blocks[:len(r.blocks)-1], r.cols[:len(r.cols)-1]
}

func (r *rules) put(s string, at api.Token) {
	r.told = append(r.told, key(s, at.Line, at.Col))
}

// column is that of the last block that is one of a column, 0 without one.
func (r *rules) column() int {
	for i := len(r.blocks) - 1; i >= 0; i-- {
		if r.blocks[i] == "column" {
			return r.cols[i]
		}
	}
	return 0
}

func isKey(t api.Token, of ...string) bool {
	return t.Kind == 4 && slices.Contains(of, t.Text)
}

// model goes through the chapter's list, rule by rule, for each token.
func model(l []api.Token) ([]api.Token, api.Place, api.Errno) {
	var r rules
	just := -1
	for i, t := range l {
		if i == 0 && !isKey(t, "{") {
			r.put("{", t)
			r.open("column", max(1, t.Col))
		}
		if i > 0 && just != i && t.Line > l[i-1].Line {
			for r.lastIsColumn() && r.lastCol() > t.Col {
				r.put("}", t)
				r.close()
			}
			if r.lastIsColumn() && r.lastCol() == t.Col {
				r.put(";", t)
			}
		}
		for isKey(t, ")") && r.lastIsColumn() {
			r.put("}", t)
			r.close()
		}
		if isKey(t, ")", "}") {
			if isKey(t, ")") && !r.lastIs("(") || isKey(t, "}") && !r.lastIs("{") {
				return nil, api.Place{Line: t.Line, Col: t.Col}, api.ErrLayout
			}
			r.close()
		}
		r.told = append(r.told, t)
		if isKey(t, "(", "{") {
			r.open(t.Text, 0)
		}
		if isKey(t, "of", "do", "dos") && !(i+1 < len(l) && isKey(l[i+1], "{")) {
			if i+1 < len(l) && l[i+1].Col > r.column() {
				r.put("{", l[i+1])
				r.open("column", l[i+1].Col)
				just = i + 1
			} else {
				r.put("{", t)
				r.put("}", t)
			}
		}
	}
	for r.lastIsColumn() {
		r.put("}", l[len(l)-1])
		r.close()
	}
	if len(r.blocks) > 0 {
		t := l[len(l)-1]
		return nil, api.Place{Line: t.Line, Col: t.Col}, api.ErrLayout
	}
	return r.told, api.Place{}, api.OK
}

// checkModel holds Layout against the model, and P3.2 of what it tells.
func checkModel(t *testing.T, l []api.Token) bool {
	t.Helper()
	m, p, e := Layout(l)
	wantM, wantP, wantE := model(l)
	if !slices.Equal(m, wantM) || p != wantP || e != wantE {
		t.Fatalf("Layout(%v) = %v, %v, %d; want %v, %v, %d", l, m, p, int(e), wantM, wantP, int(wantE))
	}
	if e == api.OK {
		checkFollows(t, l, m)
	}
	return e == api.OK
}

// checkFollows is P3.2; l's tokens have a Num other than 0, which nothing that is put has.
func checkFollows(t *testing.T, l, m []api.Token) {
	t.Helper()
	var own []api.Token
	var open []string
	for _, x := range m {
		if x.Num != 0 {
			own = append(own, x)
		} else if !isKey(x, "{", "}", ";") {
			t.Fatalf("Layout(%v) put %v", l, x)
		}
		switch {
		case isKey(x, "(", "{"):
			open = append(open, x.Text)
		case isKey(x, ")", "}"):
			if len(open) == 0 || open[len(open)-1]+x.Text != "()" && open[len(open)-1]+x.Text != "{}" {
				t.Fatalf("Layout(%v) = %v: brackets do not fit", l, m)
			}
			open = open[:len(open)-1]
		}
	}
	if !slices.Equal(own, l) || len(open) > 0 {
		t.Fatalf("Layout(%v) = %v: without what was put %v, and %v is open", l, m, own, open)
	}
}

// counted are tokens with a Num each, from 1 on.
func counted(l []api.Token) []api.Token {
	l = slices.Clone(l)
	for i := range l {
		l[i].Num = i + 1
	}
	return l
}

// source tells numbers, the same ones every time.
func source(seed uint64) func(n int) int {
	return func(n int) int {
		seed = seed*6364136223846793005 + 1442695040888963407
		return int(seed>>33) % n
	}
}

// P3.1, P3.2: all lists of up to three tokens, of some, each in its line or in the next one, at some columns; and many longer ones.
func TestShortLists(t *testing.T) {
	texts := []string{"a", "do", "(", ")", "{", "}"}
	var grow func(l []api.Token, n int)
	grow = func(l []api.Token, n int) {
		checkModel(t, l)
		if n == 0 {
			return
		}
		line := 1
		if len(l) > 0 {
			line = l[len(l)-1].Line
		}
		for _, s := range texts {
			for col := range 4 {
				for down := range 2 {
					x := key(s, line+down, col)
					x.Num = len(l) + 1
					grow(append(slices.Clone(l), x), n-1)
				}
			}
		}
	}
	grow(nil, 3)
	next := source(3)
	for range 200000 {
		var l []api.Token
		line := 1
		for range 4 + next(4) {
			l = append(l, key(texts[next(len(texts))], line+next(2), next(4)))
			line = l[len(l)-1].Line
		}
		checkModel(t, counted(l))
	}
}

// grown is a text of lines whose brackets mostly fit, indented as it goes.
func grown(next func(int) int) string {
	words := strings.Fields("a b = -> of do dos case x do of ( ) ( ) { } ;")
	var b strings.Builder
	indent, open := 0, ""
	for range 1 + next(12) {
		b.WriteString(strings.Repeat(" ", indent))
		for range next(6) {
			w := words[next(len(words))]
			switch w {
			case "(", "{":
				open += w
			case ")", "}":
				if next(20) > 0 {
					if open == "" {
						continue
					}
					w = map[byte]string{'(': ")", '{': "}"}[open[len(open)-1]]
				}
				open = open[:max(0, len(open)-1)]
			}
			b.WriteString(w + " ")
		}
		b.WriteString("\n")
		indent = max(0, indent+next(5)-2)
	}
	for i := range len(open) {
		if open[len(open)-1-i] == '(' {
			b.WriteString(")")
		} else {
			b.WriteString("}")
		}
	}
	return b.String()
}

// P3.1, P3.2: longer texts, held against the chapter's words.
func TestLongTexts(t *testing.T) {
	next := source(1)
	fine := 0
	for range 30000 {
		if checkModel(t, counted(tokens(t, grown(next)))) {
			fine++
		}
	}
	if fine < 5000 {
		t.Errorf("brackets fit in %d texts alone", fine)
	}
}

// P3.1, P3.2: tokens that no text has: other kinds, texts and places.
func TestNoTextsTokens(t *testing.T) {
	texts := []string{"", "a", "(", ")", "{", "}", ";", "of", "do", "dos", "do ", "Do", "((", "{}", "\xff", "\n"}
	kinds := []int{4, 4, 4, 4, 4, 0, 1, 2, 3, 5, -4, math.MinInt}
	places := []int{0, 1, 2, 3, -1, -2, math.MinInt, math.MaxInt, math.MaxInt - 1, math.MinInt + 1}
	next := source(7)
	for range 200000 {
		var l []api.Token
		for range next(9) {
			l = append(l, api.Token{Kind: kinds[next(len(kinds))], Text: texts[next(len(texts))], Line: places[next(len(places))], Col: places[next(len(places))]})
		}
		checkModel(t, counted(l))
	}
}

// P3.1: what is no TKey is neither a sign nor a key word, whatever its Text.
func TestKindsOfTokens(t *testing.T) {
	for _, kind := range []int{0, api.TInt, api.TName, api.TCon, 5, -1, math.MaxInt} {
		for _, s := range []string{"{", "}", "(", ")", "of", "do", "dos", ";"} {
			x := api.Token{Kind: kind, Text: s, Num: 9, Line: 1, Col: 1}
			checkTokens(t, []api.Token{x}, key("{", 1, 1), x, key("}", 1, 1))
			y := api.Token{Kind: kind, Text: s, Num: -9, Line: 1, Col: 5}
			checkTokens(t, []api.Token{key("do", 1, 2), y, name("a", 1, 9)},
				key("{", 1, 2), key("do", 1, 2), key("{", 1, 5), y, name("a", 1, 9), key("}", 1, 9), key("}", 1, 9))
		}
	}
	checkTokens(t, make([]api.Token, 2), key("{", 0, 0), api.Token{}, api.Token{}, key("}", 0, 0))
	checkWrongTokens(t, []api.Token{key("{", 1, 1), {Kind: api.TName, Text: "}", Line: -3, Col: -4}}, -3, -4)
	checkWrongTokens(t, []api.Token{name("a", 1, 1), key("}", math.MinInt, math.MaxInt)}, math.MinInt, math.MaxInt)
}

// P3.1: there may be more tokens than a text has, and blocks within blocks, without more time than they ask for.
func TestManyTokens(t *testing.T) {
	const n = 60000
	var l []api.Token
	for i := range n {
		l = append(l, key("(", 1, i+1))
	}
	for i := range n {
		l = append(l, key("do", 2, i+1), name("x", 3, 0))
	}
	for i := range n {
		l = append(l, key(")", 4, i+1))
	}
	m, p, e := Layout(l)
	if len(m) != len(l)+2+2*n || p != (api.Place{}) || e != api.OK {
		t.Errorf("%d tokens of %d, %v, %d", len(m), len(l), p, int(e))
	}
	checkWrongTokens(t, l[:len(l)-1], 4, n-1)
	l = nil
	for i := range n {
		l = append(l, key("do", i+1, i+1))
	}
	l = append(l, name("x", n+1, 1))
	m, p, e = Layout(l)
	if len(m) != len(l)+2*n+3 || p != (api.Place{}) || e != api.OK {
		t.Errorf("%d tokens of %d, %v, %d", len(m), len(l), p, int(e))
	}
}

// R4: what is handed in is not changed, its spare room included, and what is answered is memory of its own.
func TestMemory(t *testing.T) {
	for _, src := range []string{"f = do\n  a\n  b\ng = (of)", "{ a ; b }", "{ }", "a )", "( a"} {
		l := tokens(t, src)
		room := append(slices.Clone(l), make([]api.Token, 50)...)
		for i := range room[len(l):] {
			room[len(l)+i] = name("spare", i, i)
		}
		before := slices.Clone(room)
		m, _, _ := Layout(room[:len(l)])
		if !slices.Equal(room, before) {
			t.Fatalf("%q was changed", src)
		}
		told := slices.Clone(m)
		all := m[:cap(m)]
		for i := range all {
			all[i] = key("?", -1, -1)
		}
		if !slices.Equal(room, before) {
			t.Errorf("%q: what was answered is what was handed in", src)
		}
		if again, _, _ := Layout(l); !slices.Equal(again, told) {
			t.Errorf("%q: %q, then %q", src, lex.Text(told), lex.Text(again))
		}
	}
}
