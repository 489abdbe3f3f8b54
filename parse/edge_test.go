package parse

import (
	"math"
	"reflect"
	"slices"
	"strings"
	"testing"

	"dawdler/api"
	"dawdler/lex"
	"dawdler/tree"
)

// P6.1: what an expr begins with is one itself, or ends too early, at its last token, wherever it is cut.
func TestCut(t *testing.T) {
	for src := range rules() {
		l := words(t, src)
		for n := range l {
			e, at, err := Expr(l[:n])
			last := api.Place{}
			if n > 0 {
				last = api.Place{Line: l[n-1].Line, Col: l[n-1].Col}
			}
			switch {
			case err == api.OK && at == (api.Place{}) && tree.Check(e):
			case err == api.ErrParse && at == last && reflect.DeepEqual(e, api.Expr{}):
			default:
				t.Errorf("%q: %s, %v, %d; want an end at %v", lex.Text(l[:n]), short(e), at, err, last)
			}
		}
	}
}

// strange are tokens that lex tells none of, and that no rule is of.
func strange() []api.Token {
	return []api.Token{
		{}, {Kind: 5, Text: "x"}, {Kind: -1, Text: "X"}, {Kind: 0, Text: "("}, {Kind: 0, Text: "x"}, {Kind: math.MinInt}, {Kind: math.MaxInt, Text: ")", Num: 1},
		{Kind: api.TKey}, {Kind: api.TKey, Text: "x"}, {Kind: api.TKey, Text: "X"}, {Kind: api.TKey, Text: "1", Num: 1}, {Kind: api.TKey, Text: ">"}, {Kind: api.TKey, Text: "Do"}, {Kind: api.TKey, Text: "( "}, {Kind: api.TKey, Text: "()"}, {Kind: api.TKey, Text: "->>"}, {Kind: api.TKey, Text: "\x00"}, {Kind: api.TKey, Text: "\n"},
	}
}

// P6.1: a token whose Kind or Text is none that lex tells can't be gone on with, wherever it stands, and whatever stands behind it.
func TestStrangeTokens(t *testing.T) {
	for src := range rules() {
		l := words(t, src)
		for at := range len(l) + 1 {
			for _, odd := range strange() {
				odd.Line, odd.Col = 70+at, -3
				checkNoTree(t, slices.Insert(slices.Clone(l), at, odd), odd.Line, odd.Col, api.ErrParse)
			}
		}
	}
}

// P6.1: what a token is is told by its Kind, and of a TKey alone by its Text.
func TestKindTells(t *testing.T) {
	for _, s := range []string{"let", "(", "\\", "do", "->", "x", "X", "1", "", "é"} {
		if e, _, err := Expr([]api.Token{{Kind: api.TInt, Text: s, Num: 5}}); err != api.OK || told(e) != told(number(5)) {
			t.Errorf("%q: %s, %d", s, told(e), err)
		}
	}
	key := func(s string) api.Token { return api.Token{Kind: api.TKey, Text: s, Num: 9} }
	x := api.Token{Kind: api.TName, Text: "x", Num: -4}
	a := api.Token{Kind: api.TCon, Text: "A", Num: math.MaxInt}
	checkTree(t, []api.Token{key("\\"), x, key("->"), a, x}, lam("x", app(con("A"), v("x"))))
	checkTree(t, []api.Token{key("("), x, key(")"), key("+"), a}, op("+", v("x"), con("A")))
}

// P6.1: tokens that say a tree whose names, or numbers, lex does not tell: it may not be.
func TestNotToBe(t *testing.T) {
	for _, s := range []string{"", "X", "1x", "let", "x y", "x\n", "é", "_", "->", "(", strings.Repeat("x", api.MaxName+1)} {
		for _, src := range []string{"x", "f x", "f + x", `\x -> 1`, "let x = 1 in 2", "case 1 of { A x -> 2 }", "do { x <- 1 ; 2 }", "(x)", "if x then 1 else 2"} {
			l := words(t, src)
			for i := range l {
				if l[i].Kind == api.TName && l[i].Text == "x" {
					l[i].Text = s
				}
			}
			l[0].Line, l[0].Col = 4, 9
			checkNoTree(t, l, 4, 9, api.ErrNest)
		}
	}
	for _, s := range []string{"", "x", "1X", "X Y", "Å", "X_", "|", strings.Repeat("X", api.MaxName+1)} {
		for _, src := range []string{"A", "f A", "A 1 2", "case 1 of { A -> 2 }", "case 1 of { B -> 2 ; A -> 3 }"} {
			l := words(t, src)
			for i := range l {
				if l[i].Text == "A" {
					l[i].Text = s
				}
			}
			l[0].Line, l[0].Col = 5, 8
			checkNoTree(t, l, 5, 8, api.ErrNest)
		}
	}
	for _, n := range []int{-1, math.MinInt} {
		l := words(t, "(f + 1)")
		l[3].Num = n
		checkNoTree(t, l, 1, 1, api.ErrNest)
	}
}

// P6.1: trees that tokens say, and that may not be, with the place of the first token.
func TestNest(t *testing.T) {
	for _, src := range []string{
		"do { x <- 1 }", "dos { x <- 1 }", "do { a ; x <- 1 }", "f (do { a ; x <- 1 })", "\n\n   do { do { x <- 1 } ; y }", " (dos { a ; x <- 1 })",
		"case x of { A y y -> 1 }", "case x of { A -> 1 ; B a b c a -> 2 }", "  -- first\n  case x of { A y z y -> 1 }", "1 + (case x of { A y y -> 1 })",
	} {
		checkNest(t, src)
	}
}

// nested is a text of so many levels: what stands ahead of each, within, and behind.
func nested(levels int, ahead, within, behind string) string {
	return strings.Repeat(ahead, levels) + within + strings.Repeat(behind, levels)
}

// deep is a way to nest a text: what stands ahead of it, behind it, how many levels that is each time, and how many there are at the end.
type deep struct {
	ahead, within, behind string
	each, last            int
}

func deeps() []deep {
	return []deep{
		{"f (", "1", ")", 1, 1}, {"(", "1", ") 2", 1, 1}, {"((", "1", ") 2)", 1, 1}, {"", "f", " 2", 1, 1},
		{"1 + (", "1", ")", 1, 1}, {"1 * (", "1", ")", 1, 1}, {"1 == (", "1", ")", 1, 1}, {"(", "1", ") - 2", 1, 1}, {"(", "1", ") < 2", 1, 1}, {"", "1", " + 2", 1, 1}, {"", "1", " / 2", 1, 1},
		{`\x -> `, "1", "", 1, 1}, {"let x = ", "1", " in 2", 1, 1}, {"let x = 2 in ", "1", "", 1, 1},
		{"if ", "1", " then 2 else 3", 1, 1}, {"if 1 then ", "2", " else 3", 1, 1}, {"if 1 then 2 else ", "3", "", 1, 1},
		{"case ", "1 2", " of { A -> 2 }", 1, 2}, {"case 1 of { A -> ", "1", " }", 2, 1}, {"case 1 of { B -> 2 ; A x -> ", "1", " }", 2, 1},
		{"do { ", "1", " }", 1, 1}, {"dos { 2 ; ", "1", " }", 1, 1}, {"do { x <- ", "1", " ; 2 }", 2, 1}, {"dos { x <- ", "1", " ; 2 }", 2, 1},
	}
}

// P6.1: a tree of MaxNest levels may be, one of one more may not.
func TestDepths(t *testing.T) {
	for _, d := range deeps() {
		for levels := range api.MaxNest + 2 {
			src, want := nested(levels, d.ahead, d.within, d.behind), d.each*levels+d.last
			if want > api.MaxNest {
				checkNest(t, src)
				checkNest(t, "\n  "+src)
				continue
			}
			e, at, err := Expr(words(t, src))
			if err != api.OK || at != (api.Place{}) || tree.Depth(e) != want {
				t.Errorf("%q: %v, %d, of %d levels; want %d", short(src), at, err, tree.Depth(e), want)
			}
		}
	}
}

// P6.1: brackets that say nothing are no level.
func TestBrackets(t *testing.T) {
	for _, levels := range []int{1, 2, 29, 30, 31, 100, 101, api.MaxTokens/2 - 2} {
		checkExpr(t, nested(levels, "(", "x", ")"), v("x"))
		checkExpr(t, nested(levels, "(", "f 1", ")"), app(v("f"), number(1)))
		checkExpr(t, "f "+nested(levels, "(", "x", ")"), app(v("f"), v("x")))
	}
}

// P6.1: a tree of MaxSize parts may be, one of one more may not.
func TestSizes(t *testing.T) {
	five := strings.Repeat("1 1 1 ; ", 199)
	for line, want := range map[string]int{"1 1": 999, "1 ; 1 1": 1000, "1 1 1": 1001, "1 1 1 1": 1003} {
		src := "do { " + five + line + " }"
		if want > api.MaxSize {
			checkNest(t, src)
			continue
		}
		if e, _, err := Expr(words(t, src)); err != api.OK || tree.Size(e) != want {
			t.Errorf("%d, of %d parts; want %d", err, tree.Size(e), want)
		}
	}
}

// P6.1: that there is no tree is told ahead of that it may not be.
func TestParseAheadOfNest(t *testing.T) {
	for _, src := range []string{
		"do { x <- 1 } !)", "do { x <- 1 } !y", "case x of { A y y -> !}", "case x of { A y y -> 1 ; !}", "case x of { A y y -> !1", "do { x <- !1",
		nested(40, "f (", "1", ")") + " !)", nested(40, `\x -> `, "", "") + "!)", nested(40, "f (", "1", ")")[:120] + "!1", strings.Repeat("1 + ", 900) + "!+",
	} {
		checkStop(t, src)
	}
	l := words(t, `\x -> y z w`)
	l[1].Text, l[3].Text = "", "X"
	checkNoTree(t, append(l, api.Token{Kind: api.TKey, Text: "in", Line: 3, Col: 4}), 3, 4, api.ErrParse)
	checkNoTree(t, l[:3], 1, 4, api.ErrParse)
}
