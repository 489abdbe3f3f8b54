package layout

import (
	"math"
	"slices"
	"testing"

	"dawdler/api"
	"dawdler/lex"
)

// tokens are a text's, with their places.
func tokens(t *testing.T, src string) []api.Token {
	t.Helper()
	l, p, e := lex.Lex([]byte(src))
	if e != api.OK {
		t.Fatalf("%q has no token at %v", src, p)
	}
	return l
}

func key(s string, line, col int) api.Token {
	return api.Token{Kind: api.TKey, Text: s, Line: line, Col: col}
}

func name(s string, line, col int) api.Token {
	return api.Token{Kind: api.TName, Text: s, Line: line, Col: col}
}

// checkText asks for tokens of just these texts.
func checkText(t *testing.T, src, want string) {
	t.Helper()
	l, p, e := Layout(tokens(t, src))
	if lex.Text(l) != want || p != (api.Place{}) || e != api.OK {
		t.Errorf("Layout of %q = %q, %v, %d; want %q", src, lex.Text(l), p, int(e), want)
	}
}

// checkTokens asks for just these tokens, with their places.
func checkTokens(t *testing.T, l []api.Token, want ...api.Token) {
	t.Helper()
	m, p, e := Layout(l)
	if !slices.Equal(m, want) || p != (api.Place{}) || e != api.OK {
		t.Errorf("Layout(%v) = %v, %v, %d; want %v", l, m, p, int(e), want)
	}
}

// checkWrong asks for ErrLayout, no tokens, and a place.
func checkWrong(t *testing.T, src string, line, col int) {
	t.Helper()
	checkWrongTokens(t, tokens(t, src), line, col)
}

func checkWrongTokens(t *testing.T, l []api.Token, line, col int) {
	t.Helper()
	if m, p, e := Layout(l); e != api.ErrLayout || len(m) != 0 || p != (api.Place{Line: line, Col: col}) {
		t.Errorf("Layout of %.80q = %.80q, %v, %d; want none, %d %d, %d", lex.Text(l), lex.Text(m), p, int(e), line, col, int(api.ErrLayout))
	}
}

// P3.1: the chapter's example.
func TestExample(t *testing.T) {
	checkTokens(t, tokens(t, "f = do\n  a\n  b"),
		key("{", 1, 1), name("f", 1, 1), key("=", 1, 3), key("do", 1, 5), key("{", 2, 3), name("a", 2, 3), key(";", 3, 3), name("b", 3, 3), key("}", 3, 3), key("}", 3, 3))
}

// P3.1: none of none.
func TestNone(t *testing.T) {
	checkTokens(t, nil)
	checkTokens(t, []api.Token{})
	checkTokens(t, make([]api.Token, 0, 5))
}

// P3.1: at the first token a { is put, and a block of its column is open, unless it is a {.
func TestFirst(t *testing.T) {
	checkTokens(t, tokens(t, "a"), key("{", 1, 1), name("a", 1, 1), key("}", 1, 1))
	checkTokens(t, tokens(t, "\n\n   a"), key("{", 3, 4), name("a", 3, 4), key("}", 3, 4))
	checkTokens(t, tokens(t, ";"), key("{", 1, 1), key(";", 1, 1), key("}", 1, 1))
	checkTokens(t, tokens(t, "()"), key("{", 1, 1), key("(", 1, 1), key(")", 1, 2), key("}", 1, 2))
	checkTokens(t, tokens(t, "{}"), key("{", 1, 1), key("}", 1, 2))
	checkText(t, "  a\n  b", "{ a ; b }")
	checkText(t, "{ a\nb\n c }", "{ a b c }")
	checkText(t, "{ a }\nb", "{ a } b")
	checkText(t, "{}{}", "{ } { }")
	checkText(t, "  { a ; b }\n  { c }\nd", "{ a ; b } { c } d")
	checkText(t, "do\n  a", "{ do { a } }")
	checkText(t, "dos", "{ dos { } }")
	checkText(t, "of a", "{ of { a } }")
	checkText(t, "do { a }", "{ do { a } }")
}

// P3.1: a first token whose Col is below 1 opens a block of column 1; the { has the token's Col all the same.
func TestFirstColumn(t *testing.T) {
	for _, col := range []int{0, -1, -7, math.MinInt} {
		a, open := name("a", 1, col), key("{", 1, col)
		checkTokens(t, []api.Token{a, name("b", 2, 1)}, open, a, key(";", 2, 1), name("b", 2, 1), key("}", 2, 1))
		checkTokens(t, []api.Token{a, name("b", 2, 2)}, open, a, name("b", 2, 2), key("}", 2, 2))
		checkTokens(t, []api.Token{a, name("b", 2, 0)}, open, a, key("}", 2, 0), name("b", 2, 0))
		checkTokens(t, []api.Token{a, name("b", 2, col)}, open, a, key("}", 2, col), name("b", 2, col))
		checkTokens(t, []api.Token{a, name("b", 2, 0), name("c", 3, 0), name("d", 4, 1)}, open, a, key("}", 2, 0), name("b", 2, 0), name("c", 3, 0), name("d", 4, 1))
		do := key("do", 1, col)
		checkTokens(t, []api.Token{do, name("b", 2, 1)}, open, do, open, key("}", 1, col), key(";", 2, 1), name("b", 2, 1), key("}", 2, 1))
		checkTokens(t, []api.Token{do, name("b", 1, 2)}, open, do, key("{", 1, 2), name("b", 1, 2), key("}", 1, 2), key("}", 1, 2))
	}
	checkTokens(t, []api.Token{name("a", 1, 1), name("b", 2, 0)}, key("{", 1, 1), name("a", 1, 1), key("}", 2, 0), name("b", 2, 0))
	checkTokens(t, []api.Token{name("a", 1, math.MaxInt), name("b", 2, math.MaxInt)},
		key("{", 1, math.MaxInt), name("a", 1, math.MaxInt), key(";", 2, math.MaxInt), name("b", 2, math.MaxInt), key("}", 2, math.MaxInt))
}

// P3.1: a line in the block's column, one further right, and one further left.
func TestLines(t *testing.T) {
	checkText(t, "a\nb\nc", "{ a ; b ; c }")
	checkText(t, "a\n\n\nb", "{ a ; b }")
	checkText(t, "a\n b", "{ a b }")
	checkText(t, "f\n  x\n y", "{ f x y }")
	checkText(t, "  a\n  b\n c", "{ a ; b } c")
	checkText(t, "  a\n b\n  c\nd", "{ a } b c d")
	checkText(t, "a b c\nd e", "{ a b c ; d e }")
	checkText(t, "a ; b\n;\nc", "{ a ; b ; ; ; c }")
	checkTokens(t, tokens(t, "  a\n b"), key("{", 1, 3), name("a", 1, 3), key("}", 2, 2), name("b", 2, 2))
	checkTokens(t, tokens(t, "a\nb"), key("{", 1, 1), name("a", 1, 1), key(";", 2, 1), name("b", 2, 1), key("}", 2, 1))
}

// P3.1: a line closes each block that it stands left of, and begins a line of the one that it stands in.
func TestLinesOfBlocks(t *testing.T) {
	checkText(t, "f = do a\n       b\ng", "{ f = do { a ; b } ; g }")
	checkText(t, "f = do a\n      b\ng", "{ f = do { a } b ; g }")
	checkText(t, "f = do a\n        b\ng", "{ f = do { a b } ; g }")
	checkText(t, "f = case x of\n  A -> do\n    a\n    b\n  B -> c\n", "{ f = case x of { A -> do { a ; b } ; B -> c } }")
	checkText(t, "a of\n b of\n  c of\n   d\ne", "{ a of { b of { c of { d } } } ; e }")
	checkText(t, "a of\n b of\n  c of\n   d\n e", "{ a of { b of { c of { d } } ; e } }")
	checkText(t, "a of\n  b of\n    c of\n      d\n   e", "{ a of { b of { c of { d } } e } }")
	checkText(t, "  a of\n    b\nc", "{ a of { b } } c")
	checkTokens(t, tokens(t, "  do\n     a\n b"), key("{", 1, 3), key("do", 1, 3), key("{", 2, 6), name("a", 2, 6), key("}", 3, 2), key("}", 3, 2), name("b", 3, 2))
}

// P3.1: where a bracket's block is the last one, lines say nothing; those of blocks of a column within it do.
func TestLinesInBrackets(t *testing.T) {
	checkText(t, "a (\nb\nc )\nd", "{ a ( b c ) ; d }")
	checkText(t, "do {\n a\nb\n} c", "{ do { a b } c }")
	checkText(t, "f = do { a\n; b }", "{ f = do { a ; b } }")
	checkText(t, "a ( do b\nc )", "{ a ( do { b } c ) }")
	checkText(t, "a ( do\n  b\n  c )", "{ a ( do { b ; c } ) }")
	checkText(t, "{ do\n  b\n  c\n }", "{ do { b ; c } }")
	checkText(t, "  a (\nb )\n  c\nd", "{ a ( b ) ; c } d")
}

// P3.1: a bracket, and of, do and dos, may begin a line too.
func TestLinesThatBegin(t *testing.T) {
	checkText(t, "a\n( b )\n{ c }\ndo d\ndos", "{ a ; ( b ) ; { c } ; do { d } ; dos { } }")
	checkText(t, "f = do\n{ a }", "{ f = do ; { a } }")
	checkText(t, "f = do\n  g of\n { a }", "{ f = do { g of } { a } }")
	checkText(t, "f ( do\n  a\n  )", "{ f ( do { a ; } ) }")
	checkText(t, "do\n  do\n    a\n  do\n    b", "{ do { do { a } ; do { b } } }")
}

// P3.1: it is a Line above that of the token right ahead that counts.
func TestOrderOfLines(t *testing.T) {
	checkTokens(t, []api.Token{name("a", 1, 1), name("b", 1, 1)}, key("{", 1, 1), name("a", 1, 1), name("b", 1, 1), key("}", 1, 1))
	checkTokens(t, []api.Token{name("a", 5, 1), name("b", 4, 1)}, key("{", 5, 1), name("a", 5, 1), name("b", 4, 1), key("}", 4, 1))
	checkTokens(t, []api.Token{name("a", 5, 1), name("b", 3, 1), name("c", 4, 1)},
		key("{", 5, 1), name("a", 5, 1), name("b", 3, 1), key(";", 4, 1), name("c", 4, 1), key("}", 4, 1))
	checkTokens(t, []api.Token{name("a", 5, 3), name("b", 4, 1), name("c", 3, 3)}, key("{", 5, 3), name("a", 5, 3), name("b", 4, 1), name("c", 3, 3), key("}", 3, 3))
	checkTokens(t, []api.Token{name("a", -5, 1), name("b", -4, 1)}, key("{", -5, 1), name("a", -5, 1), key(";", -4, 1), name("b", -4, 1), key("}", -4, 1))
	const least, most = math.MinInt, math.MaxInt
	checkTokens(t, []api.Token{name("a", least, 1), name("b", most, 1)}, key("{", least, 1), name("a", least, 1), key(";", most, 1), name("b", most, 1), key("}", most, 1))
	checkTokens(t, []api.Token{name("a", most, 1), name("b", least, 1)}, key("{", most, 1), name("a", most, 1), name("b", least, 1), key("}", least, 1))
}

// P3.1: a ) closes the blocks of a column that are open within its brackets, and none beyond.
func TestRoundCloses(t *testing.T) {
	checkText(t, "f = g (case x of A -> (1))", "{ f = g ( case x of { A -> ( 1 ) } ) }")
	checkText(t, "(do do do a) b", "{ ( do { do { do { a } } } ) b }")
	checkText(t, "f = (do a\n  ) x", "{ f = ( do { a } ) x }")
	checkText(t, "do\n  (a)\n  b", "{ do { ( a ) ; b } }")
	checkText(t, "(do) a", "{ ( do { } ) a }")
	checkText(t, "((do a) do b) c", "{ ( ( do { a } ) do { b } ) c }")
	checkTokens(t, tokens(t, "( do a )"), key("{", 1, 1), key("(", 1, 1), key("do", 1, 3), key("{", 1, 6), name("a", 1, 6), key("}", 1, 8), key(")", 1, 8), key("}", 1, 8))
}

// P3.1: a } has to fit at once: it closes no block of a column.
func TestCurlyCloses(t *testing.T) {
	checkText(t, "f = do { a }", "{ f = do { a } }")
	checkText(t, "{ do { a } }", "{ do { a } }")
	checkText(t, "{ f ({}) }", "{ f ( { } ) }")
	checkText(t, "{ do\n   a\n }", "{ do { a } }")
	checkText(t, "f = (do { a })", "{ f = ( do { a } ) }")
	checkWrong(t, "{ do a }", 1, 8)
	checkWrong(t, "{ do }", 1, 6)
	checkWrong(t, "f = do a }", 1, 10)
	checkWrong(t, "{ do\n  a\n  }", 3, 3)
	checkWrong(t, "{ do\n  a\n   }", 3, 4)
	checkWrong(t, "{ ( do a } )", 1, 10)
	checkWrong(t, "f }", 1, 3)
}

// P3.1: behind of, do and dos a { is put at the next token, unless that is a {; behind no other one.
func TestBegins(t *testing.T) {
	for _, s := range []string{"of", "do", "dos"} {
		checkText(t, "f "+s+" a", "{ f "+s+" { a } }")
		checkText(t, "f "+s+"\n a\n b\nc", "{ f "+s+" { a ; b } ; c }")
		checkText(t, "f "+s+" { a }", "{ f "+s+" { a } }")
		checkText(t, "f "+s+"\n { a\n b }", "{ f "+s+" { a b } }")
		checkText(t, "f "+s+" ( a )", "{ f "+s+" { ( a ) } }")
		checkText(t, "f "+s+" ; a", "{ f "+s+" { ; a } }")
		checkText(t, "f "+s+" "+s+" a", "{ f "+s+" { "+s+" { a } } }")
		checkText(t, "{ "+s+" a\n}", "{ "+s+" { a } }")
		checkText(t, "{ "+s+" { a\n} }", "{ "+s+" { a } }")
	}
	for _, s := range []string{"case", "let", "in", "if", "then", "else", "data", "->", "=", ";", "a", "Do", "doo", "7"} {
		checkText(t, "f "+s+" a", "{ f "+s+" a }")
		checkText(t, "f "+s+"\n a\n b", "{ f "+s+" a b }")
		checkText(t, "f "+s, "{ f "+s+" }")
	}
}

// P3.1: without a token behind of, do or dos, or with one that does not stand further right, a { and a } are put at of, do or dos.
func TestBeginsNothing(t *testing.T) {
	for _, s := range []string{"of", "do", "dos"} {
		checkTokens(t, tokens(t, "a\n  "+s), key("{", 1, 1), name("a", 1, 1), key(s, 2, 3), key("{", 2, 3), key("}", 2, 3), key("}", 2, 3))
		checkTokens(t, tokens(t, "a "+s+"\nb"), key("{", 1, 1), name("a", 1, 1), key(s, 1, 3), key("{", 1, 3), key("}", 1, 3), key(";", 2, 1), name("b", 2, 1), key("}", 2, 1))
		checkText(t, "  f "+s+"\na", "{ f "+s+" { } } a")
		checkText(t, "f do\n  g "+s+"\n  h", "{ f do { g "+s+" { } ; h } }")
		checkText(t, "f do\n  g "+s+"\n h", "{ f do { g "+s+" { } } h }")
		checkText(t, "f do\n  g "+s+"\n   h", "{ f do { g "+s+" { h } } }")
		checkText(t, "f do { "+s+"\n}", "{ f do { "+s+" { } } }")
		checkText(t, "{ a } "+s, "{ a } "+s+" { }")
		checkText(t, "{ a } "+s+"\nb\nc", "{ a } "+s+" { b ; c }")
	}
	checkText(t, "f = do\ng = x", "{ f = do { } ; g = x }")
	checkText(t, "do do do", "{ do { do { do { } } } }")
	checkTokens(t, []api.Token{name("a", 1, 4), key("do", 1, 6), name("b", 1, 4)},
		key("{", 1, 4), name("a", 1, 4), key("do", 1, 6), key("{", 1, 6), key("}", 1, 6), name("b", 1, 4), key("}", 1, 4))
}

// P3.1: further right is held against the last block that is one of a column, brackets behind it or not; without one, against 0.
func TestBeginsInBrackets(t *testing.T) {
	checkText(t, "f = do\n    g (do\n  a)", "{ f = do { g ( do { } a ) } }")
	checkText(t, "f = do\n    g (do\n    a)", "{ f = do { g ( do { } a ) } }")
	checkText(t, "f = do\n    g (do\n     a)", "{ f = do { g ( do { a } ) } }")
	checkText(t, "f = do\n    g (({ do\n    a }))", "{ f = do { g ( ( { do { } a } ) ) } }")
	checkText(t, "f = do\n    g (({ do\n     a\n   }))", "{ f = do { g ( ( { do { a } } ) ) } }")
	checkText(t, "f = (do a) do\n  b", "{ f = ( do { a } ) do { b } }")
	checkText(t, "f = ((a) do\n b)", "{ f = ( ( a ) do { b } ) }")
	open := key("{", 1, 9)
	checkTokens(t, []api.Token{open, key("do", 1, 11), name("a", 2, 1), key("}", 3, 0)}, open, key("do", 1, 11), key("{", 2, 1), name("a", 2, 1), key("}", 3, 0), key("}", 3, 0))
	checkTokens(t, []api.Token{open, key("do", 1, 11), name("a", 2, 0), key("}", 3, 0)}, open, key("do", 1, 11), key("{", 1, 11), key("}", 1, 11), name("a", 2, 0), key("}", 3, 0))
	checkTokens(t, []api.Token{open, key("do", 1, 11), name("a", 2, math.MinInt), key("}", 3, 0)},
		open, key("do", 1, 11), key("{", 1, 11), key("}", 1, 11), name("a", 2, math.MinInt), key("}", 3, 0))
}

// P3.1: at the end blocks of a column are closed at the last token.
func TestEnd(t *testing.T) {
	checkTokens(t, tokens(t, "do\n  do\n    a b"),
		key("{", 1, 1), key("do", 1, 1), key("{", 2, 3), key("do", 2, 3), key("{", 3, 5), name("a", 3, 5), name("b", 3, 7), key("}", 3, 7), key("}", 3, 7), key("}", 3, 7))
	checkText(t, "a = of\n  b\n\n\n", "{ a = of { b } }")
}

// P3.1: a bracket that does not fit is told with its place, whatever stands behind.
func TestDoesNotFit(t *testing.T) {
	checkWrong(t, ")", 1, 1)
	checkWrong(t, "}", 1, 1)
	checkWrong(t, "a )", 1, 3)
	checkWrong(t, "a }", 1, 3)
	checkWrong(t, "( }", 1, 3)
	checkWrong(t, "{ )", 1, 3)
	checkWrong(t, "{ } }", 1, 5)
	checkWrong(t, "{ } )", 1, 5)
	checkWrong(t, "( ) )", 1, 5)
	checkWrong(t, "({)}", 1, 3)
	checkWrong(t, "f = do\n  ( { do a )", 2, 12)
	checkWrong(t, "f (do a }", 1, 9)
	checkWrong(t, "f\n\n  ) ( }", 3, 3)
	checkWrong(t, "a\n )\n}", 2, 2)
	checkWrong(t, "  a\n) b", 2, 1)
	checkWrong(t, "do do do )", 1, 10)
	checkWrong(t, "( ) } (", 1, 5)
}

// P3.1: a bracket that is open at the end is told with the last token's place.
func TestStillOpen(t *testing.T) {
	checkWrong(t, "(", 1, 1)
	checkWrong(t, "{", 1, 1)
	checkWrong(t, "{ a", 1, 3)
	checkWrong(t, "(\n x", 2, 2)
	checkWrong(t, "{ ( )", 1, 5)
	checkWrong(t, "( { }", 1, 5)
	checkWrong(t, "{ do a", 1, 6)
	checkWrong(t, "f = (do\n  a\n  b\ng", 4, 1)
	checkWrong(t, "f = do {\n  a\ng = x", 3, 5)
	checkWrong(t, "f do (", 1, 6)
	checkWrong(t, "( do", 1, 3)
}
