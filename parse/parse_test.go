package parse

import (
	"fmt"
	"math"
	"reflect"
	"strings"
	"testing"

	"dawdler/api"
	"dawdler/lex"
)

func number(n int) api.Expr { return api.Expr{Kind: api.EInt, Num: n} }
func v(s string) api.Expr   { return api.Expr{Kind: api.EVar, Name: s} }
func con(s string) api.Expr { return api.Expr{Kind: api.ECon, Name: s} }

func of(kind int, l ...api.Expr) api.Expr { return api.Expr{Kind: kind, Kids: l} }

// app is of the first one, and of each one behind.
func app(e api.Expr, l ...api.Expr) api.Expr {
	for _, x := range l {
		e = of(api.EApp, e, x)
	}
	return e
}

func op(s string, a, b api.Expr) api.Expr {
	return api.Expr{Kind: api.EOp, Name: s, Kids: []api.Expr{a, b}}
}

func lam(s string, e api.Expr) api.Expr {
	return api.Expr{Kind: api.ELam, Names: []string{s}, Kids: []api.Expr{e}}
}

func let(s string, a, b api.Expr) api.Expr {
	return api.Expr{Kind: api.ELet, Names: []string{s}, Kids: []api.Expr{a, b}}
}

func alt(c string, e api.Expr, l ...string) api.Expr {
	return api.Expr{Kind: api.EAlt, Name: c, Names: l, Kids: []api.Expr{e}}
}

func bind(s string, e api.Expr) api.Expr {
	return api.Expr{Kind: api.EBind, Names: []string{s}, Kids: []api.Expr{e}}
}

// short is something as a text that is not too long to be told.
func short(x any) string {
	s := fmt.Sprintf("%v", x)
	return s[:min(len(s), 300)]
}

// words are the tokens of a text.
func words(t *testing.T, src string) []api.Token {
	t.Helper()
	l, at, err := lex.Lex([]byte(src))
	if err != api.OK {
		t.Fatalf("%q: %v, %d", src, at, err)
	}
	return l
}

// told is a tree, or a program, or a part of one, told so that a list without elements is one, nil or not.
func told(x any) string { return fmt.Sprintf("%+v", x) }

func checkTree(t *testing.T, l []api.Token, want api.Expr) {
	t.Helper()
	if e, at, err := Expr(l); told(e) != told(want) || at != (api.Place{}) || err != api.OK {
		t.Errorf("%q: %s, %v, %d; want %s", short(lex.Text(l)), short(told(e)), at, err, short(told(want)))
	}
}

func checkExpr(t *testing.T, src string, want api.Expr) {
	t.Helper()
	checkTree(t, words(t, src), want)
}

func checkNoTree(t *testing.T, l []api.Token, line, col int, want api.Errno) {
	t.Helper()
	e, at, err := Expr(l)
	if !reflect.DeepEqual(e, api.Expr{}) || at != (api.Place{Line: line, Col: col}) || err != want {
		t.Errorf("%q: %s, %v, %d; want %d %d, %d", short(lex.Text(l)), short(e), at, err, line, col, want)
	}
}

// mark takes the ! out of a text of one line: it tells the column of the token behind it.
func mark(t *testing.T, src string) (string, int) {
	t.Helper()
	ahead, behind, ok := strings.Cut(src, "!")
	if !ok {
		t.Fatalf("%q: no mark", src)
	}
	return ahead + behind, len(ahead) + 1
}

// checkStop has it that a text is no expr, and that this is told at its mark.
func checkStop(t *testing.T, marked string) {
	t.Helper()
	src, col := mark(t, marked)
	checkNoTree(t, words(t, src), 1, col, api.ErrParse)
}

func checkNest(t *testing.T, src string) {
	t.Helper()
	l := words(t, src)
	checkNoTree(t, l, l[0].Line, l[0].Col, api.ErrNest)
}

// P6.1: the chapter's example.
func TestExample(t *testing.T) {
	checkExpr(t, "f x + 1", op("+", app(v("f"), v("x")), number(1)))
}

// rules are texts that say each rule of an expr, each of its ways, with what may be left out left out, and there.
func rules() map[string]api.Expr {
	a, b, c, d, x := v("a"), v("b"), v("c"), v("d"), v("x")
	return map[string]api.Expr{
		"7":                               number(7),
		"x":                               x,
		"A":                               con("A"),
		"(x)":                             x,
		"(7)":                             number(7),
		"(A)":                             con("A"),
		"a b":                             app(a, b),
		"a b c d":                         app(a, b, c, d),
		"A 1 b":                           app(con("A"), number(1), b),
		"1 2":                             app(number(1), number(2)),
		"a (b c) d":                       app(a, app(b, c), d),
		"(a b) c":                         app(a, b, c),
		"(a + b) c":                       app(op("+", a, b), c),
		"a * b":                           op("*", a, b),
		"a / b":                           op("/", a, b),
		"a + b":                           op("+", a, b),
		"a - b":                           op("-", a, b),
		"a == b":                          op("==", a, b),
		"a < b":                           op("<", a, b),
		"a * b / c * d":                   op("*", op("/", op("*", a, b), c), d),
		"a / b * c / d":                   op("/", op("*", op("/", a, b), c), d),
		"a + b - c + d":                   op("+", op("-", op("+", a, b), c), d),
		"a - b + c - d":                   op("-", op("+", op("-", a, b), c), d),
		"a b * c d":                       op("*", app(a, b), app(c, d)),
		"a b + c d":                       op("+", app(a, b), app(c, d)),
		"a * b + c * d":                   op("+", op("*", a, b), op("*", c, d)),
		"a + b * c - d":                   op("-", op("+", a, op("*", b, c)), d),
		"a / b - c / d":                   op("-", op("/", a, b), op("/", c, d)),
		"a + b == c - d":                  op("==", op("+", a, b), op("-", c, d)),
		"a - b < c + d":                   op("<", op("-", a, b), op("+", c, d)),
		"a * b < c d":                     op("<", op("*", a, b), app(c, d)),
		"a - (b - c)":                     op("-", a, op("-", b, c)),
		"a / (b * c)":                     op("/", a, op("*", b, c)),
		"(a + b) * c":                     op("*", op("+", a, b), c),
		"(a == b) == c":                   op("==", op("==", a, b), c),
		"a < (b < c)":                     op("<", a, op("<", b, c)),
		"(a < b) + (c == d)":              op("+", op("<", a, b), op("==", c, d)),
		`\x -> a`:                         lam("x", a),
		`\x -> \y -> a b`:                 lam("x", lam("y", app(a, b))),
		`\x -> a + b == c`:                lam("x", op("==", op("+", a, b), c)),
		`(\x -> a) b`:                     app(lam("x", a), b),
		"let x = a in b":                  let("x", a, b),
		"let x = let y = a in b in c":     let("x", let("y", a, b), c),
		"let x = a in let y = b in c + d": let("x", a, let("y", b, op("+", c, d))),
		"if a then b else c":              of(api.EIf, a, b, c),
		"if if a then b else c then if a then b else c else if a then b else c": of(api.EIf, of(api.EIf, a, b, c), of(api.EIf, a, b, c), of(api.EIf, a, b, c)),
		"if a == b then c d else 1":                                           of(api.EIf, op("==", a, b), app(c, d), number(1)),
		"case a of { A -> b }":                                                of(api.ECase, a, alt("A", b)),
		"case a of { A x -> b ; B x y z -> c ; C -> d }":                      of(api.ECase, a, alt("A", b, "x"), alt("B", c, "x", "y", "z"), alt("C", d)),
		"case case a of { A -> b } of { A -> case c of { B -> d } ; B -> x }": of(api.ECase, of(api.ECase, a, alt("A", b)), alt("A", of(api.ECase, c, alt("B", d))), alt("B", x)),
		"do { a }":                        of(api.EDo, a),
		"do { a ; b ; c }":                of(api.EDo, a, b, c),
		"do { x <- a ; y <- b ; c }":      of(api.EDo, bind("x", a), bind("y", b), c),
		"dos { a }":                       of(api.EDos, a),
		"dos { a ; b }":                   of(api.EDos, a, b),
		"dos { x <- a ; b ; y <- c ; d }": of(api.EDos, bind("x", a), b, bind("y", c), d),
		"do { x ; x b ; x + b ; x == b ; (x) ; x }":                                                       of(api.EDo, x, app(x, b), op("+", x, b), op("==", x, b), x, x),
		`do { x <- \x -> a ; y <- do { b } ; let x = a in b ; z <- dos { c } ; d }`:                       of(api.EDo, bind("x", lam("x", a)), bind("y", of(api.EDo, b)), let("x", a, b), bind("z", of(api.EDos, c)), d),
		`a (\x -> b) (let x = a in b) (if a then b else c) (do { a }) (dos { b }) (case a of { A -> b })`: app(a, lam("x", b), let("x", a, b), of(api.EIf, a, b, c), of(api.EDo, a), of(api.EDos, b), of(api.ECase, a, alt("A", b))),
	}
}

// P6.1: each rule of an expr, each of its ways; brackets around it say nothing, where it may stand, and where all of it does.
func TestRules(t *testing.T) {
	x := v("x")
	for src, e := range rules() {
		checkExpr(t, src, e)
		checkExpr(t, "("+src+")", e)
		checkExpr(t, "((("+src+")))", e)
		checkExpr(t, "x ("+src+")", app(x, e))
		checkExpr(t, "("+src+") x", app(e, x))
		for _, sign := range []string{"+", "-", "*", "/", "==", "<"} {
			checkExpr(t, "x "+sign+" ("+src+")", op(sign, x, e))
			checkExpr(t, "(("+src+")) "+sign+" x", op(sign, e, x))
		}
		checkExpr(t, `\a -> `+src, lam("a", e))
		checkExpr(t, "let a = "+src+" in "+src, let("a", e, e))
		checkExpr(t, "case "+src+" of { A -> "+src+" ; B a -> "+src+" }", of(api.ECase, e, alt("A", e), alt("B", e, "a")))
		checkExpr(t, "if "+src+" then "+src+" else "+src, of(api.EIf, e, e, e))
		checkExpr(t, "do { "+src+" ; a <- "+src+" ; "+src+" }", of(api.EDo, e, bind("a", e), e))
		checkExpr(t, "dos { a <- "+src+" ; "+src+" }", of(api.EDos, bind("a", e), e))
	}
}

// P6.1: numbers are those of their tokens, and a name's bytes are those.
func TestAtoms(t *testing.T) {
	checkExpr(t, "9223372036854775807", number(math.MaxInt))
	checkExpr(t, "007", number(7))
	checkExpr(t, "0", number(0))
	checkExpr(t, "aB9 Cd0", app(v("aB9"), con("Cd0")))
	checkExpr(t, strings.Repeat("a", api.MaxName), v(strings.Repeat("a", api.MaxName)))
	checkExpr(t, "casea ofx dos1 int", app(v("casea"), v("ofx"), v("dos1"), v("int")))
}

// P6.1: places say nothing to an expr: the tokens alone do.
func TestPlacesSayNothing(t *testing.T) {
	want := op("+", app(v("f"), v("x")), number(1))
	checkExpr(t, "f\n  x -- of x\n\n+\n1", want)
	l := words(t, "f x + 1")
	for i := range l {
		l[i].Line, l[i].Col = math.MinInt+i, -i
	}
	checkTree(t, l, want)
}

// P6.1: no tokens at all.
func TestNoTokens(t *testing.T) {
	checkNoTree(t, nil, 0, 0, api.ErrParse)
	checkNoTree(t, []api.Token{}, 0, 0, api.ErrParse)
	checkNoTree(t, make([]api.Token, 0, 5), 0, 0, api.ErrParse)
}

// P6.1: the place of the first token with which no expr can go on.
func TestStops(t *testing.T) {
	for _, src := range []string{
		"x !)", "x !}", "x !;", "x !=", "x !->", "x !<-", "x !|", "x !of", "x !in", "x !then", "x !else", "x !data", "x !{ y }", "x !) )", "x !let",
		"( !)", "!{ x }", "!) x", "!} x", "!; x", "!= x", "!-> x", "!<- x", "!| x", "!of x", "!in x", "!then x", "!else x", "!data T = A",
		"!+ 1", "!- 1", "!* 1", "!/ 1", "!== 1", "!< 1", "a + !+ b", "a - !* b", "a * !/ b", "a == !== b", "a < !== b", "a + !- 1", "a + !)", "(a * !)", "a b - !in",
		"a == b !== c", "a == b !< c", "a < b !== c", "a < b !< c", "a + b == c - d !< e", "a == b !== c ==", "a == b != c", "(a == b !== c)",
		`f !\x -> x`, "f !let x = 1 in x", "f !case x of { A -> 1 }", "f !if a then b else c", "f !do { x }", "f !dos { x }",
		`a + !\x -> x`, `a * !\x -> x`, `a == !\x -> x`, "a + !do { x }", "a * !let x = a in b", "a < !if a then b else c", "a - !case a of { A -> b }", "a / !dos { b }",
		`\!X -> x`, `\!1 -> x`, `\!-> x`, `\x !y -> x`, `\x != x`, `\x !<- x`, `\!(x) -> x`, `\!in -> x`, `\x -> !-> x`, `\x -> !)`, `\!\x -> x`, `\x !; x`,
		"let !X = 1 in 2", "let !1 = 1 in 2", "let != 1 in 2", "let x !y = 1 in 2", "let x !-> 1 in 2", "let x !== 1 in 2", "let !of = 1 in 2", "let x = !in 2", "let x = 1 !of 2", "let x = 1 !; in 2", "let x = 1 in !in 2", "let x = 1 !) 2",
		"case !of { A -> 1 }", "case x !{ A -> 1 }", "case x of !A -> 1", "case x of { !}", "case x of { !; A -> 1 }", "case x of { !x -> 1 }", "case x of { !1 -> 1 }", "case x of { !(A) -> 1 }",
		"case x of { A != 1 }", "case x of { A !B -> 1 }", "case x of { A !1 -> 1 }", "case x of { A !(x) -> 1 }", "case x of { A x x !}", "case x of { A !of -> 1 }", "case x of { A x !<- 1 }", "case x of { A x y !B -> 1 }",
		"case x of { A -> !}", "case x of { A -> 1 ; !}", "case x of { A -> 1 ; !; B -> 2 }", "case x of { A -> 1 ; !x -> 2 }", "case x of { A -> 1 B !-> 2 }", "case x of { A -> 1 !)", "case x of { A -> 1 } !y", "case x of { A -> 1 } !+ y", "case x of { A -> 1 !| B -> 2 }", "case x !in { A -> 1 }",
		"if !then b else c", "if a !else c", "if a then !else c", "if a then b !then c", "if a then b else !then", "if a b c !; then", "if a then b !in c", "if a !of b else c",
		"do !x", "do { !}", "do { !; x }", "do { x ; !}", "do { x ; !; y }", "do { x y !<- z ; x }", "do { X !<- z ; x }", "do { (x) !<- z ; x }", "do { 1 !<- z ; x }", "do { x <- !}", "do { x <- y !<- z }", "do { x + y !<- z }",
		"do { x } !y", "do { x } !< y", "do { x !)", "do { !<- y }", "do { !in <- y }", "do { x != y ; x }", "do !( x )", "do { x !-> y }", "do !do { x }", "do { x ; y !-> z }", "do { x <- !; y }",
		"dos !x", "dos { !}", "dos { x ; !}", "dos { x y !<- z ; x }", "dos { x <- y !<- z }", "dos !dos { x }", "dos { x <- !}", "dos { x } !y",
		"x !<- y", "(x !<- y)", "( x !} )", "( x !; y )", "a ( !)", "(a) !)", "( a b + !) c", "let x = do { a } !b in c", "(a !of", "(((a)) !}",
	} {
		checkStop(t, src)
	}
}

// P6.1: where all tokens can be gone on with, the place of the last one.
func TestEndsTooEarly(t *testing.T) {
	for _, src := range []string{
		"!(", "(!x", "((x!)", "a !+", "a b !*", "a !==", "a !<", "a + b !-", "a / b !/", "a + b < !(",
		`!\`, `\!x`, `\x !->`, `\x -> !\`, "!let", "let !x", "let x !=", "let x = !1", "let x = 1 !in", "let x = a !b", "!case", "case !x", "case x !of", "case x of !{", "case x of { !A", "case x of { A !x", "case x of { A x !->", "case x of { A -> !1", "case x of { A -> 1 !;",
		"!if", "if !a", "if a !then", "if a then !b", "if a then b !else", "!do", "do !{", "do { !x", "do { x !<-", "do { x <- !y", "do { x <- y !;", "do { x <- y ; !x", "!dos", "dos !{", "dos { !1", "dos { x !;", "dos { x !<-",
	} {
		checkStop(t, src)
	}
}
