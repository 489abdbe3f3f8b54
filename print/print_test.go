package print

import (
	"fmt"
	"math"
	"slices"
	"strings"
	"testing"

	"dawdler/api"
)

func number(n int) api.Expr { return api.Expr{Kind: api.EInt, Num: n} }
func v(s string) api.Expr   { return api.Expr{Kind: api.EVar, Name: s} }
func con(s string) api.Expr { return api.Expr{Kind: api.ECon, Name: s} }

func of(kind int, l ...api.Expr) api.Expr { return api.Expr{Kind: kind, Kids: l} }

func app(a, b api.Expr) api.Expr { return of(api.EApp, a, b) }

func lam(s string, e api.Expr) api.Expr {
	return api.Expr{Kind: api.ELam, Names: []string{s}, Kids: []api.Expr{e}}
}

func let(s string, a, b api.Expr) api.Expr {
	return api.Expr{Kind: api.ELet, Names: []string{s}, Kids: []api.Expr{a, b}}
}

func alt(c string, e api.Expr, l ...string) api.Expr {
	return api.Expr{Kind: api.EAlt, Name: c, Names: l, Kids: []api.Expr{e}}
}

func op(s string, a, b api.Expr) api.Expr {
	return api.Expr{Kind: api.EOp, Name: s, Kids: []api.Expr{a, b}}
}

func bind(s string, e api.Expr) api.Expr {
	return api.Expr{Kind: api.EBind, Names: []string{s}, Kids: []api.Expr{e}}
}

// short is something as a text that is not too long to be told.
func short(x any) string {
	s := fmt.Sprintf("%v", x)
	return s[:min(len(s), 200)]
}

func checkExpr(t *testing.T, e api.Expr, want string) {
	t.Helper()
	if s, err := Expr(e); s != want || err != api.OK {
		t.Errorf("%s: %q, %d; want %q", short(e), short(s), err, short(want))
	}
}

func checkNone(t *testing.T, e api.Expr) {
	t.Helper()
	if s, err := Expr(e); s != "" || err != api.ErrTree {
		t.Errorf("%s: %q, %d; want an error", short(e), short(s), err)
	}
}

// P5.1: the chapter's example.
func TestExample(t *testing.T) {
	checkExpr(t, lam("x", app(v("f"), app(v("g"), v("x")))), `\x -> f (g x)`)
}

// every is a tree of each Kind that stands alone, and its text.
func every() map[string]api.Expr {
	x, y, z := v("x"), v("y"), v("z")
	return map[string]api.Expr{
		"7":                    number(7),
		"x":                    x,
		"A":                    con("A"),
		`\a -> x`:              lam("a", x),
		"x y":                  app(x, y),
		"let a = x in y":       let("a", x, y),
		"case x of { A -> y }": of(api.ECase, x, alt("A", y)),
		"x + y":                op("+", x, y),
		"if x then y else z":   of(api.EIf, x, y, z),
		"do { x }":             of(api.EDo, x),
		"dos { x }":            of(api.EDos, x),
	}
}

// P5.1: each Kind's text, and each Kind as an atom, which those alone are without brackets that have no Kids.
func TestKinds(t *testing.T) {
	x := v("x")
	kinds := map[int]bool{}
	for text, e := range every() {
		kinds[e.Kind] = true
		atom := "(" + text + ")"
		if e.Kind == api.EInt || e.Kind == api.EVar || e.Kind == api.ECon {
			atom = text
		}
		checkExpr(t, e, text)
		checkExpr(t, app(e, x), atom+" x")
		checkExpr(t, app(x, e), "x "+atom)
		checkExpr(t, app(e, e), atom+" "+atom)
		for _, sign := range []string{"+", "-", "*", "/", "==", "<"} {
			checkExpr(t, op(sign, e, x), atom+" "+sign+" x")
			checkExpr(t, op(sign, x, e), "x "+sign+" "+atom)
		}
		checkExpr(t, app(app(x, e), x), "(x "+atom+") x")
		checkExpr(t, lam("a", e), `\a -> `+text)
		checkExpr(t, let("a", e, x), "let a = "+text+" in x")
		checkExpr(t, let("a", x, e), "let a = x in "+text)
		checkExpr(t, of(api.ECase, e, alt("A", x)), "case "+text+" of { A -> x }")
		checkExpr(t, of(api.ECase, x, alt("A", e)), "case x of { A -> "+text+" }")
		checkExpr(t, of(api.EIf, e, x, x), "if "+text+" then x else x")
		checkExpr(t, of(api.EIf, x, e, x), "if x then "+text+" else x")
		checkExpr(t, of(api.EIf, x, x, e), "if x then x else "+text)
		checkExpr(t, of(api.EDo, e), "do { "+text+" }")
		checkExpr(t, of(api.EDos, e, x), "dos { "+text+" ; x }")
		checkExpr(t, of(api.EDo, bind("a", e), e), "do { a <- "+text+" ; "+text+" }")
	}
	if len(kinds) != 11 {
		t.Errorf("%d Kinds", len(kinds))
	}
}

// P5.1: numbers in decimal digits, no 0 ahead of others.
func TestNumbers(t *testing.T) {
	checkExpr(t, number(0), "0")
	checkExpr(t, number(10), "10")
	checkExpr(t, number(120), "120")
	checkExpr(t, number(math.MaxInt), "9223372036854775807")
	checkNone(t, number(-1))
	checkNone(t, number(math.MinInt))
}

// P5.1: names are told as they are.
func TestNames(t *testing.T) {
	long, great := "a"+strings.Repeat("b", 19), "A"+strings.Repeat("b", 19)
	checkExpr(t, app(v(long), con(great)), long+" "+great)
	checkExpr(t, app(v("aB1"), con("Ab1")), "aB1 Ab1")
	checkExpr(t, lam("aB1", v("aB1")), `\aB1 -> aB1`)
	checkNone(t, v(long+"b"))
	checkNone(t, con(great+"b"))
	checkNone(t, v("of"))
	checkNone(t, con("a"))
}

// P5.1: ways of a case, with and without Names.
func TestCase(t *testing.T) {
	x, y := v("x"), v("y")
	checkExpr(t, of(api.ECase, app(x, y), alt("A", app(x, y), "x", "y"), alt("B", lam("x", x))), `case x y of { A x y -> x y ; B -> \x -> x }`)
	checkExpr(t, of(api.ECase, x, alt("A", y, "a")), "case x of { A a -> y }")
	checkExpr(t, of(api.ECase, x, alt("A", y), alt("A", y), alt("B", x, "c", "b", "a")), "case x of { A -> y ; A -> y ; B c b a -> x }")
	inner := of(api.ECase, y, alt("B", x))
	checkExpr(t, of(api.ECase, inner, alt("A", inner), alt("C", y)), "case case y of { B -> x } of { A -> case y of { B -> x } ; C -> y }")
	checkNone(t, of(api.ECase, x))
	checkNone(t, of(api.ECase, x, y))
	checkNone(t, alt("A", x))
}

// P5.1: EDo and EDos of one part, and of several, with EBinds.
func TestDo(t *testing.T) {
	x, y := v("x"), v("y")
	for word, kind := range map[string]int{"do": api.EDo, "dos": api.EDos} {
		checkExpr(t, of(kind, x), word+" { x }")
		checkExpr(t, of(kind, x, y, x), word+" { x ; y ; x }")
		checkExpr(t, of(kind, bind("z", app(x, y)), x), word+" { z <- x y ; x }")
		checkExpr(t, of(kind, bind("a", x), bind("b", lam("c", y)), op("<", x, y), app(x, y)), word+` { a <- x ; b <- \c -> y ; x < y ; x y }`)
		checkExpr(t, of(kind, of(api.EDo, x), of(api.EDos, x, y)), word+" { do { x } ; dos { x ; y } }")
		checkExpr(t, app(of(kind, x, y), y), "("+word+" { x ; y }) y")
		checkNone(t, of(kind))
		checkNone(t, of(kind, bind("a", x)))
		checkNone(t, of(kind, x, bind("a", x)))
		checkNone(t, of(kind, x, alt("A", x)))
	}
	checkNone(t, bind("z", x))
}

// P5.1: one byte 32 between parts, and none behind \ and ( and ahead of ).
func TestGaps(t *testing.T) {
	x := v("x")
	checkExpr(t, app(lam("a", lam("b", x)), lam("c", x)), `(\a -> \b -> x) (\c -> x)`)
	checkExpr(t, app(app(app(x, x), x), app(x, app(x, x))), "((x x) x) (x (x x))")
	checkExpr(t, op("-", op("-", x, x), op("*", app(x, x), number(1))), "(x - x) - ((x x) * 1)")
	checkExpr(t, app(x, of(api.EIf, app(x, lam("a", x)), x, app(x, app(x, x)))), `x (if x (\a -> x) then x else x (x x))`)
}

// P5.1: trees that may not be have no text, wherever in them it is that something is wrong.
func TestWrongTrees(t *testing.T) {
	x := v("x")
	bad := []api.Expr{{}, of(-1), of(14, x), v(""), v("X"), con(""), of(api.ELam, x), of(api.EApp, x), of(api.EApp, x, x, x), of(api.ELet, x, x), of(api.EIf, x, x), of(api.EIf), of(api.ECase), op("=", x, x), op("", x, x), alt("A", x), bind("a", x), {Kind: api.EVar, Name: "x", Num: 1}, {Kind: api.EInt, Names: []string{"a"}}, {Kind: api.ELam, Names: []string{"a", "b"}, Kids: []api.Expr{x}}, {Kind: api.ELam, Names: []string{"a"}}, of(api.ECase, x, alt("A", x, "a", "a"))}
	for _, e := range bad {
		checkNone(t, e)
		checkNone(t, app(x, e))
		checkNone(t, lam("a", e))
		checkNone(t, of(api.ECase, x, alt("A", x), alt("B", e)))
		checkNone(t, of(api.EDo, bind("a", e), x))
	}
}

// P5.1: a depth of MaxNest, a size of MaxSize, and one more of each.
func TestGreatTrees(t *testing.T) {
	e, want := v("x"), "x"
	for range 29 {
		e, want = lam("y", e), `\y -> `+want
	}
	checkExpr(t, e, want)
	checkNone(t, lam("y", e))
	l := slices.Repeat([]api.Expr{v("x")}, 999)
	checkExpr(t, of(api.EDo, l...), "do { "+strings.Repeat("x ; ", 998)+"x }")
	checkNone(t, of(api.EDo, append(l, v("x"))...))
	for range 1 << 16 {
		e = lam("y", e)
	}
	checkNone(t, e)
	kids := []api.Expr{v("x"), v("x")}
	kids[1] = of(api.EApp, kids...)
	if s, err := Expr(kids[1]); s != "" || err != api.ErrTree {
		t.Errorf("a tree that holds itself: %q, %d", s, err)
	}
}

// R4, R5: trees are not changed, nor is room behind their lists, and the same is answered again.
func TestMemory(t *testing.T) {
	names := []string{"a", "spare", "spare"}
	kids := []api.Expr{bind("b", v("x")), app(v("y"), v("b")), v("spare"), v("spare")}
	kids[0].Names = names[:1]
	e := of(api.EDo, kids[:2]...)
	args := []api.Sig{sig("a"), sig("b"), sig("spare")}
	datas := []api.Data{{Name: "T", Params: names[:1], Forms: []api.Form{{Name: "A", Args: args[:2]}}}, {Name: "Spare"}}
	defs := []api.Def{{Name: "f", Body: e}, {Name: "spare"}}
	p := api.Prog{Datas: datas[:1], Defs: defs[:1]}
	before := fmt.Sprint(names, kids, args, datas, defs)
	for range 3 {
		checkExpr(t, e, "do { a <- x ; y b }")
		checkProg(t, p, "{ data T a = A a b ; f = do { a <- x ; y b } }")
		checkSig(t, fun(sig("T", args[:2]...), args[0]), "(T a b) -> a")
		if now := fmt.Sprint(names, kids, args, datas, defs); now != before {
			t.Fatalf("%s, then %s", before, now)
		}
	}
}
