package print

import (
	"slices"
	"strings"
	"testing"

	"dawdler/api"
)

func sig(s string, l ...api.Sig) api.Sig { return api.Sig{Name: s, Args: l} }

func fun(a, b api.Sig) api.Sig { return sig("->", a, b) }

// sigs is a written type of just one part a level.
func sigs(depth int) api.Sig {
	s := sig("a")
	for range depth - 1 {
		s = sig("T", s)
	}
	return s
}

func data(s string, params []string, l ...api.Form) api.Data {
	return api.Data{Name: s, Params: params, Forms: l}
}

func form(s string, l ...api.Sig) api.Form { return api.Form{Name: s, Args: l} }

func def(s string, e api.Expr) api.Def { return api.Def{Name: s, Body: e} }

func datas(l ...api.Data) api.Prog { return api.Prog{Datas: l} }

func defs(l ...api.Def) api.Prog { return api.Prog{Defs: l} }

func checkProg(t *testing.T, p api.Prog, want string) {
	t.Helper()
	if s, err := Prog(p); s != want || err != api.OK {
		t.Errorf("%s: %q, %d; want %q", short(p), short(s), err, short(want))
	}
}

func checkNoProg(t *testing.T, p api.Prog) {
	t.Helper()
	if s, err := Prog(p); s != "" || err != api.ErrTree {
		t.Errorf("%s: %q, %d; want an error", short(p), short(s), err)
	}
}

// checkSig asks for a written type's text, and nothing is nothing.
func checkSig(t *testing.T, s api.Sig, want string) {
	t.Helper()
	if told := Sig(s); told != want {
		t.Errorf("%s: %q; want %q", short(s), short(told), short(want))
	}
}

// P5.1: programs of no Datas and no Defs, of one of each, and of several.
func TestProg(t *testing.T) {
	x := v("x")
	u, f := data("U", nil, form("U")), def("f", app(x, v("y")))
	checkProg(t, api.Prog{}, "{ }")
	checkProg(t, api.Prog{Datas: []api.Data{}, Defs: []api.Def{}}, "{ }")
	checkProg(t, datas(u), "{ data U = U }")
	checkProg(t, defs(f), "{ f = x y }")
	checkProg(t, api.Prog{Datas: []api.Data{u}, Defs: []api.Def{f}}, "{ data U = U ; f = x y }")
	checkProg(t, datas(u, data("V", nil, form("W")), u), "{ data U = U ; data V = W ; data U = U }")
	checkProg(t, defs(f, def("g", x), f), "{ f = x y ; g = x ; f = x y }")
	two := api.Prog{Datas: []api.Data{u, u}, Defs: []api.Def{def("main", lam("a", x)), def("g", of(api.EDo, x, x))}}
	checkProg(t, two, `{ data U = U ; data U = U ; main = \a -> x ; g = do { x ; x } }`)
}

// P5.1: Datas with and without Params, of one Form and of several, with and without Args.
func TestDatas(t *testing.T) {
	a, b := sig("a"), sig("b")
	checkProg(t, datas(data("T", []string{}, form("A"))), "{ data T = A }")
	checkProg(t, datas(data("T", []string{"a"}, form("A"))), "{ data T a = A }")
	checkProg(t, datas(data("T", []string{"b", "a"}, form("A"))), "{ data T b a = A }")
	checkProg(t, datas(data("T", nil, form("A"), form("B"))), "{ data T = A | B }")
	checkProg(t, datas(data("T", nil, form("A"), form("B"), form("A"))), "{ data T = A | B | A }")
	checkProg(t, datas(data("T", nil, form("A", a))), "{ data T = A a }")
	checkProg(t, datas(data("T", nil, form("A", a, b), form("B", b))), "{ data T = A a b | B b }")
	list := data("L", []string{"a", "b"}, form("N"), form("C", a, sig("L", a, b), fun(a, sig("L", b))))
	checkProg(t, datas(list), "{ data L a b = N | C a (L a b) (a -> (L b)) }")
	checkProg(t, datas(data("T", nil, form("A", fun(fun(a, b), fun(b, a)), sig("Int")))), "{ data T = A ((a -> b) -> (b -> a)) Int }")
}

// P5.1: a Def's Body is told as it is, without brackets, whatever its Kind.
func TestBodies(t *testing.T) {
	for text, e := range every() {
		checkProg(t, defs(def("f", e)), "{ f = "+text+" }")
	}
}

// P5.1: programs that may not be have no text.
func TestWrongProgs(t *testing.T) {
	x, a := v("x"), sig("a")
	u, f := data("U", nil, form("U")), def("f", x)
	for _, d := range []api.Data{{}, data("T", nil), data("t", nil, form("A")), data("T", []string{"A"}, form("A")), data("T", []string{"a", "a"}, form("A")), data("T", nil, form("")), data("T", nil, form("A"), form("b")), data("T", nil, form("A", sig("->", a))), data("T", nil, form("A", sig("a", a))), data("T", nil, form("A", sigs(31))), data("T", nil, form("A", slices.Repeat([]api.Sig{a}, 41)...))} {
		checkNoProg(t, datas(d))
		checkNoProg(t, api.Prog{Datas: []api.Data{u, d, u}, Defs: []api.Def{f}})
	}
	for _, d := range []api.Def{{}, def("", x), def("F", x), def("of", x), def("f", bind("a", x)), def("f", alt("A", x)), def("f", app(x, number(-1)))} {
		checkNoProg(t, defs(d))
		checkNoProg(t, api.Prog{Datas: []api.Data{u}, Defs: []api.Def{f, d, f}})
	}
	for _, n := range []int{40, 41} {
		many := []api.Prog{datas(slices.Repeat([]api.Data{u}, n)...), defs(slices.Repeat([]api.Def{f}, n)...)}
		line := []string{"data U = U", "f = x"}
		for i, p := range many {
			if n > 40 {
				checkNoProg(t, p)
				continue
			}
			checkProg(t, p, "{ "+strings.Repeat(line[i]+" ; ", 39)+line[i]+" }")
		}
	}
	cycle := []api.Sig{a}
	cycle[0] = api.Sig{Name: "T", Args: cycle}
	if s, err := Prog(datas(data("T", nil, form("A", cycle...)))); s != "" || err != api.ErrTree {
		t.Errorf("a type that holds itself: %q, %d", s, err)
	}
}

// P5.2: written types without Args, with Args, and -> of two Args, and each of them as an atom.
func TestSigs(t *testing.T) {
	for _, c := range []struct {
		s          api.Sig
		text, atom string
	}{
		{sig("a"), "a", "a"},
		{sig("Int"), "Int", "Int"},
		{sig("T", sig("a")), "T a", "(T a)"},
		{sig("T", sig("a"), sig("Int"), sig("b")), "T a Int b", "(T a Int b)"},
		{fun(sig("a"), sig("b")), "a -> b", "(a -> b)"},
		{fun(sig("a"), fun(sig("b"), sig("c"))), "a -> (b -> c)", "(a -> (b -> c))"},
		{fun(fun(sig("a"), sig("b")), sig("c")), "(a -> b) -> c", "((a -> b) -> c)"},
		{fun(sig("T", sig("a")), sig("U", sig("b"))), "(T a) -> (U b)", "((T a) -> (U b))"},
		{sig("T", sig("U", sig("V", sig("a")))), "T (U (V a))", "(T (U (V a)))"},
	} {
		checkSig(t, c.s, c.text)
		checkSig(t, sig("T", c.s), "T "+c.atom)
		checkSig(t, sig("T", c.s, sig("a"), c.s), "T "+c.atom+" a "+c.atom)
		checkSig(t, fun(c.s, sig("a")), c.atom+" -> a")
		checkSig(t, fun(sig("a"), c.s), "a -> "+c.atom)
		checkProg(t, datas(data("T", nil, form("A", c.s))), "{ data T = A "+c.atom+" }")
	}
	checkSig(t, api.Sig{Name: "a", Args: []api.Sig{}}, "a")
	checkSig(t, sig("T", api.Sig{Name: "a", Args: []api.Sig{}}), "T a")
}

// P5.2: written types that may not be in a program have a text too: -> of another number of Args, names that are none, any bytes.
func TestOddSigs(t *testing.T) {
	a, b := sig("a"), sig("b")
	checkSig(t, sig("->"), "->")
	checkSig(t, sig("T", sig("->")), "T ->")
	checkSig(t, sig("->", a), "-> a")
	checkSig(t, sig("T", sig("->", a)), "T (-> a)")
	checkSig(t, sig("->", a, b, a), "-> a b a")
	checkSig(t, fun(sig("->", a), sig("->")), "(-> a) -> ->")
	checkSig(t, sig("a", b), "a b")
	checkSig(t, sig("of", a), "of a")
	checkSig(t, sig("a b", a), "a b a")
	checkSig(t, sig("\xff\x00\n", a), "\xff\x00\n a")
	checkSig(t, sig(strings.Repeat("a", 1000)), strings.Repeat("a", 1000))
	// A Name is a part as any other, even if it is empty, or looks like a bracket.
	checkSig(t, api.Sig{}, "")
	checkSig(t, sig("", a), " a")
	checkSig(t, sig("T", sig(""), a), "T  a")
	checkSig(t, sig("T", sig("", a)), "T ( a)")
	checkSig(t, sig("T", sig("T", sig(""))), "T (T )")
	checkSig(t, sig("(", a, sig(")")), "( a )")
	checkSig(t, sig(`\`, a), `\ a`)
}

// P5.2: a depth of MaxNest, and one more, also deeper down and behind others.
func TestDeepSigs(t *testing.T) {
	text := func(depth int) string {
		return strings.Repeat("T (", depth-2) + "T a" + strings.Repeat(")", depth-2)
	}
	checkSig(t, sigs(29), text(29))
	checkSig(t, sigs(30), text(30))
	for _, depth := range []int{31, 32, 100, 1 << 16} {
		checkSig(t, sigs(depth), "")
		checkSig(t, sig("T", sig("a"), sigs(depth)), "")
		checkSig(t, fun(sigs(depth), sig("a")), "")
	}
	checkSig(t, fun(sig("a"), sigs(29)), "a -> ("+text(29)+")")
	checkSig(t, fun(sigs(29), sigs(29)), "("+text(29)+") -> ("+text(29)+")")
	checkSig(t, fun(sig("a"), sigs(30)), "")
	checkSig(t, fun(sigs(30), sig("a")), "")
	checkSig(t, sig("T", sigs(29), sigs(29), sigs(29)), "T ("+text(29)+") ("+text(29)+") ("+text(29)+")")
	checkSig(t, sig("T", sigs(29), sigs(29), sigs(30)), "")
	checkProg(t, datas(data("T", nil, form("A", sigs(30), sigs(30)))), "{ data T = A ("+text(30)+") ("+text(30)+") }")
	arrows, want := sig("a"), "a"
	for i := range 29 {
		if i > 0 {
			want = "(" + want + ")"
		}
		arrows, want = fun(sig("b"), arrows), "b -> "+want
	}
	checkSig(t, arrows, want)
	checkSig(t, fun(sig("b"), arrows), "")
}

// P5.2: MaxDefs Args, and one more, also deeper down.
func TestWideSigs(t *testing.T) {
	for _, n := range []int{39, 40, 41, 42, 100000} {
		s, want := sig("T", slices.Repeat([]api.Sig{sig("a")}, n)...), "T"+strings.Repeat(" a", n)
		wants := []string{want, "U (" + want + ")", "U a (" + want + ")", "a -> (" + want + ")", "(" + want + ") -> a", "U (U a (" + want + "))"}
		for i, whole := range []api.Sig{s, sig("U", s), sig("U", sig("a"), s), fun(sig("a"), s), fun(s, sig("a")), sig("U", sig("U", sig("a"), s))} {
			if n > 40 {
				wants[i] = ""
			}
			checkSig(t, whole, wants[i])
		}
		arrow := sig("->", s.Args...)
		if n > 40 {
			checkSig(t, arrow, "")
			continue
		}
		checkSig(t, arrow, "->"+strings.Repeat(" a", n))
	}
}

// R1: written types that hold one list again and again end, as those do that hold themselves.
func TestSharedSigs(t *testing.T) {
	s := sig("a")
	for range 15 {
		s = sig("T", s, s)
	}
	if told := Sig(s); strings.Count(told, "a") != 1<<15 || strings.Count(told, "T") != 1<<15-1 || strings.Count(told, "(") != strings.Count(told, ")") {
		t.Errorf("%d bytes", len(told))
	}
	for range 100 {
		s = sig("T", s, s)
	}
	if Sig(s) != "" {
		t.Error("one that is too deep has a text")
	}
	cycle := []api.Sig{sig("a"), sig("a")}
	cycle[1] = sig("->", cycle...)
	if Sig(cycle[1]) != "" {
		t.Error("one that holds itself has a text")
	}
}

// R1: of a text that there is no room for there is none, however many parts there would still be.
func TestRoom(t *testing.T) {
	s := sig("a")
	for range 29 {
		s = sig("T", slices.Repeat([]api.Sig{s}, 40)...)
	}
	for _, room := range []int{0, 1, 10, 10000} {
		if told, ok := tell(room, s); told != "" || ok {
			t.Errorf("%q, %v", short(told), ok)
		}
	}
	p := datas(data("T", []string{"a"}, form("A", sig("T", sig("a"))), form("B")))
	want := "{ data T a = A (T a) | B }"
	for room := range 40 {
		told, ok := tell(room, p)
		if fits := room >= len(want); ok != fits || fits && told != want || !fits && told != "" {
			t.Errorf("%d: %q, %v", room, told, ok)
		}
	}
}
