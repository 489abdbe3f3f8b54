package parse

import (
	"math"
	"reflect"
	"slices"
	"strings"
	"testing"

	"dawdler/api"
	"dawdler/layout"
	"dawdler/lex"
	"dawdler/tree"
)

func sig(s string, l ...api.Sig) api.Sig   { return api.Sig{Name: s, Args: l} }
func fun(a, b api.Sig) api.Sig             { return sig("->", a, b) }
func form(s string, l ...api.Sig) api.Form { return api.Form{Name: s, Args: l} }
func def(s string, e api.Expr) api.Def     { return api.Def{Name: s, Body: e} }
func defs(l ...api.Def) api.Prog           { return api.Prog{Defs: l} }
func datas(l ...api.Data) api.Prog         { return api.Prog{Datas: l} }
func params(l ...string) []string          { return l }
func data(s string, p []string, l ...api.Form) api.Data {
	return api.Data{Name: s, Params: p, Forms: l}
}

func checkTokens(t *testing.T, l []api.Token, want api.Prog) {
	t.Helper()
	if p, at, err := Prog(l); told(p) != told(want) || at != (api.Place{}) || err != api.OK {
		t.Errorf("%q: %s, %v, %d; want %s", short(lex.Text(l)), short(told(p)), at, err, short(told(want)))
	}
}

func checkProg(t *testing.T, src string, want api.Prog) {
	t.Helper()
	checkTokens(t, words(t, src), want)
}

func checkNoProg(t *testing.T, l []api.Token, line, col int, want api.Errno) {
	t.Helper()
	p, at, err := Prog(l)
	if !reflect.DeepEqual(p, api.Prog{}) || at != (api.Place{Line: line, Col: col}) || err != want {
		t.Errorf("%q: %s, %v, %d; want %d %d, %d", short(lex.Text(l)), short(p), at, err, line, col, want)
	}
}

func checkProgStop(t *testing.T, marked string) {
	t.Helper()
	src, col := mark(t, marked)
	checkNoProg(t, words(t, src), 1, col, api.ErrParse)
}

func checkProgNest(t *testing.T, src string) {
	t.Helper()
	l := words(t, src)
	checkNoProg(t, l, l[0].Line, l[0].Col, api.ErrNest)
}

// progs are texts of programs: each rule of a prog, each of its ways, with what may be left out left out, and there.
func progs() map[string]api.Prog {
	a, b, c, T := sig("a"), sig("b"), sig("c"), sig("T")
	x, one := v("x"), number(1)
	return map[string]api.Prog{
		"{ }":                            {},
		"{ f = 1 }":                      defs(def("f", one)),
		"{ f = 1 ; g = x }":              defs(def("f", one), def("g", x)),
		"{ f = 1 ; f = f f }":            defs(def("f", one), def("f", app(v("f"), v("f")))),
		"{ g = 1 ; f = 1 ; h = 1 }":      defs(def("g", one), def("f", one), def("h", one)),
		"{ f x = x }":                    defs(def("f", lam("x", x))),
		"{ f x y z = x }":                defs(def("f", lam("x", lam("y", lam("z", x))))),
		"{ f x x = x ; g y = \\x -> x }": defs(def("f", lam("x", lam("x", x))), def("g", lam("y", lam("x", x)))),
		"{ f f = f }":                    defs(def("f", lam("f", v("f")))),
		"{ f x = x + 1 == 1 ; g = do { x <- x ; x } }":                   defs(def("f", lam("x", op("==", op("+", x, one), one))), def("g", of(api.EDo, bind("x", x), x))),
		"{ f = case x of { A x -> 1 ; B -> x } ; g = 1 }":                defs(def("f", of(api.ECase, x, alt("A", one, "x"), alt("B", x))), def("g", one)),
		"{ f = (1) ; g = ((x)) }":                                        defs(def("f", one), def("g", x)),
		"{ data T = A }":                                                 datas(data("T", nil, form("A"))),
		"{ data T = T }":                                                 datas(data("T", nil, form("T"))),
		"{ data T = A | B | C }":                                         datas(data("T", nil, form("A"), form("B"), form("C"))),
		"{ data T a = A }":                                               datas(data("T", params("a"), form("A"))),
		"{ data T a b c = A | B }":                                       datas(data("T", params("a", "b", "c"), form("A"), form("B"))),
		"{ data T = A a }":                                               datas(data("T", nil, form("A", a))),
		"{ data T = A T a T }":                                           datas(data("T", nil, form("A", T, a, T))),
		"{ data T = A a b | B T | C }":                                   datas(data("T", nil, form("A", a, b), form("B", T), form("C"))),
		"{ data T = A (a) ((T)) }":                                       datas(data("T", nil, form("A", a, T))),
		"{ data T = A (T a) (T a b) }":                                   datas(data("T", nil, form("A", sig("T", a), sig("T", a, b)))),
		"{ data T = A T a (T a) }":                                       datas(data("T", nil, form("A", T, a, sig("T", a)))),
		"{ data T = A (T (T a) T b) }":                                   datas(data("T", nil, form("A", sig("T", sig("T", a), T, b)))),
		"{ data T = A (a -> b) }":                                        datas(data("T", nil, form("A", fun(a, b)))),
		"{ data T = A (a -> b -> c) }":                                   datas(data("T", nil, form("A", fun(a, fun(b, c))))),
		"{ data T = A (a -> (b -> c)) }":                                 datas(data("T", nil, form("A", fun(a, fun(b, c))))),
		"{ data T = A ((a -> b) -> c) }":                                 datas(data("T", nil, form("A", fun(fun(a, b), c)))),
		"{ data T = A (((a -> b)) -> ((c)) -> a) }":                      datas(data("T", nil, form("A", fun(fun(a, b), fun(c, a))))),
		"{ data T = A (T a -> T b c) (T -> T) | B (a -> T (b -> c) a) }": datas(data("T", nil, form("A", fun(sig("T", a), sig("T", b, c)), fun(T, T)), form("B", fun(a, sig("T", fun(b, c), a))))),
		"{ data T = A (T -> a -> T b) a }":                               datas(data("T", nil, form("A", fun(T, fun(a, sig("T", b))), a))),
		"{ data T = A ; data T = A }":                                    datas(data("T", nil, form("A")), data("T", nil, form("A"))),
		"{ data T a = A a ; data U = B T | C }":                          datas(data("T", params("a"), form("A", a)), data("U", nil, form("B", T), form("C"))),
		"{ f = 1 ; data T = A a ; g = x ; data U b = B ; h x = 1 }":      {Datas: []api.Data{data("T", nil, form("A", a)), data("U", params("b"), form("B"))}, Defs: []api.Def{def("f", one), def("g", x), def("h", lam("x", one))}},
	}
}

// P6.1: programs, each rule, each of its ways.
func TestProgs(t *testing.T) {
	for src, p := range progs() {
		checkProg(t, src, p)
		checkProg(t, "\n -- a program\n  "+strings.ReplaceAll(src, " ", "\n"), p)
	}
}

// P6.1: an expr of each kind is what a Def may be of.
func TestBodies(t *testing.T) {
	for src, e := range rules() {
		checkProg(t, "{ f = "+src+" }", defs(def("f", e)))
		checkProg(t, "{ f x y = "+src+" ; g = "+src+" }", defs(def("f", lam("x", lam("y", e))), def("g", e)))
	}
}

// P6.1: no tokens are no program.
func TestNoTokensNoProg(t *testing.T) {
	checkNoProg(t, nil, 0, 0, api.ErrParse)
	checkNoProg(t, []api.Token{}, 0, 0, api.ErrParse)
}

// P6.1: the place of the first token with which no program can go on.
func TestProgStops(t *testing.T) {
	for _, src := range []string{
		"!f = 1", "!data T = A", "!}", "!( f = 1 )", "!;", "!1", "!X", "!in",
		"{ } !}", "{ } !;", "{ } !f = 1", "{ } !{ }", "{ f = 1 } !x", "{ f = 1 } !{",
		"{ !; }", "{ !; f = 1 }", "{ f = 1 ; !}", "{ f = 1 ; !; g = 1 }", "{ f = 1 g != 1 }", "{ f = 1 !)", "{ f = 1 !{ }", "{ !{ } }",
		"{ !F = 1 }", "{ !1 = 1 }", "{ != 1 }", "{ !(f) = 1 }", "{ !in = 1 }", "{ !case x of { A -> 1 } }", "{ !let f = 1 in 2 }", "{ !do { x } }", "{ !\\x -> x }",
		"{ f !2 = 3 }", "{ f !X = 3 }", "{ f x !-> 3 }", "{ f x !(y) = 3 }", "{ f x !in = 3 }", "{ f !== 3 }", "{ f !}", "{ f !; g = 1 }", "{ f x !data = 1 }",
		"{ f = !}", "{ f = !; g = 1 }", "{ f = != 1 }", "{ f = 1 != 2 }", "{ f = 1 !| 2 }", "{ f = 1 !-> 2 }", "{ f = x !<- 2 }", "{ f = !data T = A }", "{ f = a == b !== c }", "{ f = ( 1 !} )", "{ f = 1 !in }",
		"{ data !t = A }", "{ data != A }", "{ data !1 = A }", "{ data !(T) = A }", "{ data !data T = A }", "{ data !of = A }", "{ data !; f = 1 }",
		"{ data T !1 = A }", "{ data T !A = A }", "{ data T a !B = A }", "{ data T !(a) = A }", "{ data T !in = A }", "{ data T !-> A }", "{ data T !| A }", "{ data T a !== A }", "{ data T !}", "{ data T a !; f = 1 }",
		"{ data T = !}", "{ data T = !a }", "{ data T = !1 }", "{ data T = !(A) }", "{ data T = !| A }", "{ data T = !; f = 1 }", "{ data T = != A }", "{ data T = !data }",
		"{ data T = A !1 }", "{ data T = A !-> a }", "{ data T = A a !-> b }", "{ data T = A != B }", "{ data T = A !+ B }", "{ data T = A !in }", "{ data T = A !data }", "{ data T = A !{ }", "{ data T = A !)", "{ data T = A a !\\x }",
		"{ data T = A | !}", "{ data T = A | !| B }", "{ data T = A | !b }", "{ data T = A | !; f = 1 }", "{ data T = A | B | !1 }", "{ data T = A ; !A = 1 }", "{ data T = A ; !}", "{ data T = A ; !| B }",
		"{ data T = A ( !) }", "{ data T = A ( !1 ) }", "{ data T = A ( !-> a ) }", "{ data T = A ( a !b ) }", "{ data T = A ( a !T ) }", "{ data T = A ( a !( b ) ) }", "{ data T = A ( ( T ) !b ) }", "{ data T = A ( ( a ) !( b ) ) }", "{ data T = A ( a -> !) }", "{ data T = A ( a -> !-> b ) }", "{ data T = A ( a -> b !c ) }", "{ data T = A ( T a !; b ) }",
		"{ data T = A ( a !} )", "{ data T = A ( a !| b ) }", "{ data T = A ( a != b ) }", "{ data T = A ( a !; f = 1 }", "{ data T = A ( T ( a ) !1 ) }", "{ data T = A ( T a -> ( b ) !c ) }", "{ data T = A ( !in ) }", "{ data T = A ( a ) !) }", "{ data T = A ( !\\x -> a ) }",
	} {
		checkProgStop(t, src)
	}
}

// P6.1: where all tokens can be gone on with, the place of the last one.
func TestProgEndsTooEarly(t *testing.T) {
	for _, src := range []string{
		"!{", "{ !f", "{ f !x", "{ f x !=", "{ f = !1", "{ f = 1 !;", "{ f = 1 ; !g", "{ f = a !+", "{ f = do { x !}", "{ f = do !{",
		"{ !data", "{ data !T", "{ data T !a", "{ data T !=", "{ data T = !A", "{ data T = A !|", "{ data T = A !;", "{ data T = A !a", "{ data T = A !(", "{ data T = A ( !a", "{ data T = A ( a !->", "{ data T = A ( !T", "{ data T = A ( T !a", "{ data T = A ( T ( !a", "{ data T = A ( a !)", "{ data T = A !T",
	} {
		checkProgStop(t, src)
	}
	for src := range progs() {
		l := words(t, src)
		for n := range l {
			last := api.Place{}
			if n > 0 {
				last = api.Place{Line: l[n-1].Line, Col: l[n-1].Col}
			}
			checkNoProg(t, l[:n], last.Line, last.Col, api.ErrParse)
		}
	}
}

// P6.1: a token that lex tells none of can't be gone on with, wherever it stands.
func TestStrangeTokensInProgs(t *testing.T) {
	for src := range progs() {
		l := words(t, src)
		for at := range len(l) + 1 {
			for _, odd := range strange() {
				odd.Line, odd.Col = -2, 80+at
				checkNoProg(t, slices.Insert(slices.Clone(l), at, odd), odd.Line, odd.Col, api.ErrParse)
			}
		}
	}
}

// P6.1: programs that tokens say, and that may not be, with the place of the first token.
func TestProgNest(t *testing.T) {
	for _, src := range []string{
		"{ data T a a = A }", "{ data T a b c a = A | B }", "\n  { f = 1 ; data T a a = A }", "{ f = do { x <- 1 } }", "  -- at the place behind\n  { g = 1 ; f = case x of { A y y -> 1 } }", "{ f x = dos { 1 ; y <- 2 } ; g = 1 }",
		"{ f = " + nested(30, `\x -> `, "1", "") + " }", "{ f x = " + nested(29, `\x -> `, "1", "") + " }", "{ f" + strings.Repeat(" x", 30) + " = 1 }",
		"{ data T = A " + nested(31, "(T ", "a", ")") + " }", "{ data T = A " + nested(30, "(T ", "a", ")") + " }", "{ data T = A (" + nested(30, "a -> ", "b", "") + ") }",
	} {
		checkProgNest(t, src)
	}
	for _, src := range []string{
		"{ f = " + nested(29, `\x -> `, "1", "") + " }", "{ f x = " + nested(28, `\x -> `, "1", "") + " }", "{ f" + strings.Repeat(" x", 29) + " = 1 }",
		"{ data T = A " + nested(29, "(T ", "a", ")") + " }", "{ data T = A (" + nested(29, "a -> ", "b", "") + ") }", "{ data T = A " + nested(900, "(", "a", ")") + " }",
	} {
		if p, at, err := Prog(words(t, src)); err != api.OK || at != (api.Place{}) || !tree.Prog(p) {
			t.Errorf("%q: %v, %d", short(src), at, err)
		}
	}
}

// P6.1: MaxDefs Datas, Defs, Forms and Args may be, one more may not.
func TestMany(t *testing.T) {
	for _, way := range []struct {
		ahead, each, between, behind string
		many                         func(api.Prog) int
	}{
		{"{ ", "f = 1", " ; ", " }", func(p api.Prog) int { return len(p.Defs) }},
		{"{ ", "data T = A", " ; ", " }", func(p api.Prog) int { return len(p.Datas) }},
		{"{ data T = ", "A", " | ", " }", func(p api.Prog) int { return len(p.Datas[0].Forms) }},
		{"{ data T = A ", "a", " ", " }", func(p api.Prog) int { return len(p.Datas[0].Forms[0].Args) }},
		{"{ data T = A (T ", "a", " ", ") }", func(p api.Prog) int { return len(p.Datas[0].Forms[0].Args[0].Args) }},
		{"{ data T = A (a -> T ", "U", " ", ") }", func(p api.Prog) int { return len(p.Datas[0].Forms[0].Args[0].Args[1].Args) }},
	} {
		for _, many := range []int{1, 2, api.MaxDefs - 1, api.MaxDefs, api.MaxDefs + 1, 2 * api.MaxDefs} {
			src := way.ahead + strings.Repeat(way.each+way.between, many-1) + way.each + way.behind
			if many > api.MaxDefs {
				checkProgNest(t, src)
			} else if p, at, err := Prog(words(t, src)); err != api.OK || at != (api.Place{}) || way.many(p) != many {
				t.Errorf("%q: %v, %d; want %d", short(src), at, err, many)
			}
		}
	}
	both := "{ " + strings.Repeat("f = 1 ; data T = A ; ", api.MaxDefs-1) + "data T = A ; f = 1 }"
	if p, _, err := Prog(words(t, both)); err != api.OK || len(p.Datas) != api.MaxDefs || len(p.Defs) != api.MaxDefs {
		t.Errorf("%d Datas, %d Defs, %d", len(p.Datas), len(p.Defs), err)
	}
}

// P6.1: that there is no program is told ahead of that it may not be.
func TestProgParseAheadOfNest(t *testing.T) {
	for _, src := range []string{"{ data T a a = !}", "{ data T a a = A !)", "{ data T a a = A } !;", "{ f = do { x <- 1 } ; !}", "{ f = do { x <- 1 !;", "{ " + strings.Repeat("f = 1 ; ", 50) + "!1 }"} {
		checkProgStop(t, src)
	}
}

// P6.1: names and constructors that lex tells none of: what tree.Prog says of them holds.
func TestProgNotToBe(t *testing.T) {
	swap := func(src, from, to string) []api.Token {
		l := words(t, src)
		for i := range l {
			if l[i].Text == from {
				l[i].Text = to
			}
		}
		l[0].Line, l[0].Col = 6, 2
		return l
	}
	for _, s := range []string{"", "X", "1x", "data", "x y", "->", strings.Repeat("x", api.MaxName+1)} {
		for _, src := range []string{"{ q = 1 }", "{ f q = 1 }", "{ f x q = 1 }", "{ f = q }", "{ data T q = A }", "{ data T a q = A }"} {
			checkNoProg(t, swap(src, "q", s), 6, 2, api.ErrNest)
		}
	}
	for _, s := range []string{"", "x", "1X", "X Y", "->", strings.Repeat("X", api.MaxName+1)} {
		for _, src := range []string{"{ f = Q }", "{ data Q = A }", "{ data T = Q }", "{ data T = A | Q a }", "{ f = case 1 of { Q -> 2 } }"} {
			checkNoProg(t, swap(src, "Q", s), 6, 2, api.ErrNest)
		}
	}
	for _, s := range []string{"", "1", "in", "q q", "->"} {
		checkNoProg(t, swap("{ data T = A q }", "q", s), 6, 2, api.ErrNest)
		checkNoProg(t, swap("{ data T = A Q }", "Q", s), 6, 2, api.ErrNest)
		checkNoProg(t, swap("{ data T = A (Q a) }", "Q", s), 6, 2, api.ErrNest)
	}
	checkTokens(t, swap("{ data T = A (Q a b) }", "Q", "->"), datas(data("T", nil, form("A", fun(sig("a"), sig("b"))))))
	checkTokens(t, swap("{ data T = A q }", "q", "X"), datas(data("T", nil, form("A", sig("X")))))
	checkTokens(t, swap("{ data T = A Q (Q) }", "Q", "x"), datas(data("T", nil, form("A", sig("x"), sig("x")))))
	checkNoProg(t, swap("{ data T = A (Q a) }", "Q", "x"), 6, 2, api.ErrNest)
}

func place(line, col int) api.Place { return api.Place{Line: line, Col: col} }

func checkText(t *testing.T, src string, want api.Prog) {
	t.Helper()
	if p, at, err := Text([]byte(src)); told(p) != told(want) || at != (api.Place{}) || err != api.OK {
		t.Errorf("%q: %s, %v, %d; want %s", short(src), short(told(p)), at, err, short(told(want)))
	}
}

// P6.2: texts, with their lines, and with brackets.
func TestTexts(t *testing.T) {
	x, one := v("x"), number(1)
	loop := def("f", of(api.EDo, bind("x", v("g")), of(api.ECase, x, alt("A", v("h")), alt("B", op("+", x, one), "a", "b"))))
	list := data("T", params("a"), form("A"), form("B", sig("a"), sig("T", sig("a"))))
	checkText(t, "f x y = x\n", defs(def("f", lam("x", lam("y", x)))))
	checkText(t, "f = do\n  x <- g\n  case x of\n    A -> h\n    B a b -> x\n      + 1\n", defs(loop))
	checkText(t, "data T a = A\n  | B a (T a)\nf = do x <- g\n       case x of A -> h\n                 B a b -> x + 1\ng = 1 -- the last one", api.Prog{Datas: []api.Data{list}, Defs: []api.Def{loop, def("g", one)}})
	checkText(t, "f = 1\ndata T a = A | B a (T a)\ng =\n x", api.Prog{Datas: []api.Data{list}, Defs: []api.Def{def("f", one), def("g", x)}})
	checkText(t, "  f = (do x\n          x)\n  g = dos\n    x", defs(def("f", of(api.EDo, x, x)), def("g", of(api.EDos, x))))
	checkText(t, "f = 1 ; g = x", defs(def("f", one), def("g", x)))
	checkText(t, "{ }", api.Prog{})
	for src, p := range progs() {
		checkText(t, src, p)
	}
}

// P6.2: lex's error ahead of layout's, layout's ahead of a prog's, each with its place.
func TestTextErrors(t *testing.T) {
	for src, want := range map[string]struct {
		at  api.Place
		err api.Errno
	}{
		"":                        {place(0, 0), api.ErrParse},
		"\n -- nothing\n":         {place(0, 0), api.ErrParse},
		"f = ?":                   {place(1, 5), api.ErrLex},
		"f = )\n g ?":             {place(2, 4), api.ErrLex},
		") 1 1x9 \xff":            {place(1, 9), api.ErrLex},
		"f = 9223372036854775808": {place(1, 5), api.ErrLex},
		strings.Repeat("x ", api.MaxTokens) + "x": {place(1, 2*api.MaxTokens+1), api.ErrLex},
		strings.Repeat("x ", api.MaxTokens):       {place(1, 2*api.MaxTokens-1), api.ErrParse},
		"f = )":                                   {place(1, 5), api.ErrLayout},
		"f = 1 2 = )":                             {place(1, 11), api.ErrLayout},
		"1 = (\n  2":                              {place(2, 3), api.ErrLayout},
		"F = 1 }":                                 {place(1, 7), api.ErrLayout},
		"{ f = 1":                                 {place(1, 7), api.ErrLayout},
		"f = 1\ng 2 = 3":                          {place(2, 3), api.ErrParse},
		"f =\ng = 1":                              {place(2, 1), api.ErrParse},
		"f = 1\n\n  g = 2":                        {place(3, 5), api.ErrParse},
		"f = do":                                  {place(1, 5), api.ErrParse},
		"f = do\ng = 1":                           {place(1, 5), api.ErrParse},
		"f = case x of\n\n":                       {place(1, 12), api.ErrParse},
		"f = if a\n  then b":                      {place(2, 8), api.ErrParse},
		"data T = t":                              {place(1, 10), api.ErrParse},
		"F = 1":                                   {place(1, 1), api.ErrParse},
		"{ f = 1 } g":                             {place(1, 11), api.ErrParse},
		"{ f = 1 ; }":                             {place(1, 11), api.ErrParse},
		" data T a a = A":                         {place(1, 2), api.ErrNest},
		"\n\n   f = 1\n   g = do\n     x <- 1":    {place(3, 4), api.ErrNest},
		" -- one\n  { f = case x of { A y y -> 1 } }": {place(2, 3), api.ErrNest},
		strings.Repeat("f = 1\n", api.MaxDefs+1):      {place(1, 1), api.ErrNest},
	} {
		p, at, err := Text([]byte(src))
		if !reflect.DeepEqual(p, api.Prog{}) || at != want.at || err != want.err {
			t.Errorf("%q: %s, %v, %d; want %v, %d", short(src), short(p), at, err, want.at, want.err)
		}
	}
	if p, at, err := Text(nil); !reflect.DeepEqual(p, api.Prog{}) || at != (api.Place{}) || err != api.ErrParse {
		t.Errorf("nothing: %v, %v, %d", p, at, err)
	}
}

// P6.2: whatever bytes there are, Text says what lex, layout and Prog say in a row.
func TestAnyBytes(t *testing.T) {
	next, seen := source(62), map[api.Errno]int{}
	const bytes = "fx1A \n(){};=-|>+<\\?do"
	texts := []string{"f = do\n  x <- g\n  case x of\n    A -> h\n    B a b c -> k\n", "data T a = A | B a (T a)\nf x = x + 1\n", "f = (do x\n      y) z\n"}
	for range 30000 {
		src := []byte(texts[next(len(texts))])
		for range next(3) {
			at := next(len(src))
			src[at] = bytes[next(len(bytes))]
		}
		p, at, err := Text(src)
		seen[err]++
		l, wantAt, want := lex.Lex(src)
		if want == api.OK {
			l, wantAt, want = layout.Layout(l)
		}
		var wantProg api.Prog
		if want == api.OK {
			wantProg, wantAt, want = Prog(l)
		}
		if told(p) != told(wantProg) || at != wantAt || err != want {
			t.Fatalf("%q: %s, %v, %d; want %s, %v, %d", src, told(p), at, err, told(wantProg), wantAt, want)
		}
	}
	for _, err := range []api.Errno{api.OK, api.ErrLex, api.ErrLayout, api.ErrParse} {
		if seen[err] < 100 {
			t.Errorf("%d: %d times", err, seen[err])
		}
	}
}

// R1: places that no text has are told as they are.
func TestAnyPlaces(t *testing.T) {
	l := []api.Token{{Kind: api.TKey, Text: "{", Line: math.MinInt, Col: math.MaxInt}, {Kind: api.TKey, Text: "}", Line: -1, Col: 0}, {Kind: api.TName, Text: "x", Line: math.MaxInt, Col: math.MinInt}}
	checkNoProg(t, l, math.MaxInt, math.MinInt, api.ErrParse)
	checkNoProg(t, l[:1], math.MinInt, math.MaxInt, api.ErrParse)
	checkNoProg(t, l[1:], -1, 0, api.ErrParse)
	checkTokens(t, l[:2], api.Prog{})
	checkNoTree(t, l, math.MinInt, math.MaxInt, api.ErrParse)
	checkNoTree(t, []api.Token{l[2], l[0]}, math.MinInt, math.MaxInt, api.ErrParse)
}
