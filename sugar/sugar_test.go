package sugar

import (
	"fmt"
	"reflect"
	"testing"

	"dawdler/api"
	"dawdler/tree"
)

func number(n int) api.Expr      { return api.Expr{Kind: api.EInt, Num: n} }
func v(s string) api.Expr        { return api.Expr{Kind: api.EVar, Name: s} }
func con(s string) api.Expr      { return api.Expr{Kind: api.ECon, Name: s} }
func app(l ...api.Expr) api.Expr { return of(api.EApp, l...) }
func do(l ...api.Expr) api.Expr  { return of(api.EDo, l...) }
func dos(l ...api.Expr) api.Expr { return of(api.EDos, l...) }

func of(kind int, l ...api.Expr) api.Expr { return api.Expr{Kind: kind, Kids: l} }

func lam(s string, e api.Expr) api.Expr {
	return api.Expr{Kind: api.ELam, Names: []string{s}, Kids: []api.Expr{e}}
}

func let(s string, a, b api.Expr) api.Expr {
	return api.Expr{Kind: api.ELet, Names: []string{s}, Kids: []api.Expr{a, b}}
}

func alt(c string, e api.Expr, l ...string) api.Expr {
	return api.Expr{Kind: api.EAlt, Name: c, Names: l, Kids: []api.Expr{e}}
}

func op(s string, l ...api.Expr) api.Expr {
	return api.Expr{Kind: api.EOp, Name: s, Kids: l}
}

func bind(s string, e api.Expr) api.Expr {
	return api.Expr{Kind: api.EBind, Names: []string{s}, Kids: []api.Expr{e}}
}

func cond(a, b, c api.Expr) api.Expr { return of(api.EIf, a, b, c) }

// io and stm are a line, and what is done behind it, as they are to be.
func io(line api.Expr, name string, behind api.Expr) api.Expr {
	return app(app(v("bindIO"), line), lam(name, behind))
}

func stm(line api.Expr, name string, behind api.Expr) api.Expr {
	return app(app(v("bindSTM"), line), lam(name, behind))
}

func bareIf(a, b, c api.Expr) api.Expr {
	return of(api.ECase, a, alt("True", b), alt("False", c))
}

// short is a tree as a text that is not too long to be told.
func short(x any) string {
	s := fmt.Sprintf("%v", x)
	return s[:min(len(s), 300)]
}

// alike holds two trees against each other; a list without elements may be nil or not.
func alike(a, b api.Expr) bool {
	if a.Kind != b.Kind || a.Name != b.Name || a.Num != b.Num || len(a.Names) != len(b.Names) || len(a.Kids) != len(b.Kids) {
		return false
	}
	for i := range a.Names {
		if a.Names[i] != b.Names[i] {
			return false
		}
	}
	for i := range a.Kids {
		if !alike(a.Kids[i], b.Kids[i]) {
			return false
		}
	}
	return true
}

// checkCore asks for what a tree is to be, that it has no sugar, and that it stays as it is if it is made bare again.
func checkCore(t *testing.T, e, want api.Expr) {
	t.Helper()
	got, err := Core(e)
	if err != api.OK || !alike(got, want) || !tree.Core(got) {
		t.Fatalf("%s: %s, %d; want %s", short(e), short(got), err, short(want))
	}
	if again, err := Core(got); err != api.OK || !alike(again, want) {
		t.Fatalf("%s: again %s, %d", short(e), short(again), err)
	}
}

// checkNone asks for an error, and an empty tree.
func checkNone(t *testing.T, e api.Expr, want api.Errno) {
	t.Helper()
	if got, err := Core(e); err != want || !reflect.DeepEqual(got, api.Expr{}) {
		t.Fatalf("%s, %d; want %d", short(got), err, want)
	}
}

// P7.1: the chapter's example.
func TestExample(t *testing.T) {
	checkCore(t, do(bind("x", v("a")), v("b")), app(app(v("bindIO"), v("a")), lam("x", v("b"))))
}

// P7.1: an if is a case of True and of False, in this order.
func TestIf(t *testing.T) {
	a, b, c := v("a"), v("b"), v("c")
	checkCore(t, cond(a, b, c), bareIf(a, b, c))
	checkCore(t, cond(con("False"), number(1), number(2)), bareIf(con("False"), number(1), number(2)))
	inner, bareInner := cond(v("d"), v("e"), v("f")), bareIf(v("d"), v("e"), v("f"))
	checkCore(t, cond(inner, b, c), bareIf(bareInner, b, c))
	checkCore(t, cond(a, inner, c), bareIf(a, bareInner, c))
	checkCore(t, cond(a, b, inner), bareIf(a, b, bareInner))
	checkCore(t, cond(inner, inner, inner), bareIf(bareInner, bareInner, bareInner))
	checkCore(t, cond(a, cond(inner, b, inner), c), bareIf(a, bareIf(bareInner, b, bareInner), c))
}

// P7.1: blocks of one Kid, and of two and three, of lines that bind, and of others.
func TestBlocks(t *testing.T) {
	a, b, c := v("a"), v("b"), v("c")
	checkCore(t, do(a), a)
	checkCore(t, dos(a), a)
	checkCore(t, do(a, b), io(a, "u", b))
	checkCore(t, dos(a, b), stm(a, "u", b))
	checkCore(t, dos(bind("x", a), b), stm(a, "x", b))
	checkCore(t, do(a, b, c), io(a, "u", io(b, "u", c)))
	checkCore(t, do(bind("x", a), b, c), io(a, "x", io(b, "u", c)))
	checkCore(t, do(a, bind("x", b), c), io(a, "u", io(b, "x", c)))
	checkCore(t, do(bind("x", a), bind("y", b), c), io(a, "x", io(b, "y", c)))
	checkCore(t, dos(bind("x", a), b, c), stm(a, "x", stm(b, "u", c)))
	checkCore(t, dos(a, bind("x", b), c), stm(a, "u", stm(b, "x", c)))
}

// P7.1: names are taken as they are: the same one twice, and u, which is then another one's too.
func TestNames(t *testing.T) {
	a, b, u := v("a"), v("b"), v("u")
	checkCore(t, do(bind("x", a), bind("x", v("x")), v("x")), io(a, "x", io(v("x"), "x", v("x"))))
	checkCore(t, do(bind("u", a), b, u), io(a, "u", io(b, "u", u)))
	checkCore(t, dos(u, bind("u", u), u), stm(u, "u", stm(u, "u", u)))
	checkCore(t, do(bind("bindIO", a), v("bindIO")), io(a, "bindIO", v("bindIO")))
	checkCore(t, lam("bindSTM", dos(a, b)), lam("bindSTM", stm(a, "u", b)))
	checkCore(t, do(bind("abcdefghijklmnopqrst", a), b), io(a, "abcdefghijklmnopqrst", b))
}

// P7.1: blocks within blocks, in lines that bind, and in others, and in the last one.
func TestBlocksInBlocks(t *testing.T) {
	a, b, c, d := v("a"), v("b"), v("c"), v("d")
	checkCore(t, do(do(a, b), c), io(io(a, "u", b), "u", c))
	checkCore(t, do(a, do(b, c)), io(a, "u", io(b, "u", c)))
	checkCore(t, do(dos(a, b), c), io(stm(a, "u", b), "u", c))
	checkCore(t, do(a, dos(b, c)), io(a, "u", stm(b, "u", c)))
	checkCore(t, dos(do(a, b), c), stm(io(a, "u", b), "u", c))
	checkCore(t, dos(a, do(b, c)), stm(a, "u", io(b, "u", c)))
	checkCore(t, do(bind("x", dos(bind("y", a), b)), c), io(stm(a, "y", b), "x", c))
	checkCore(t, dos(bind("x", do(bind("y", a), b)), c, d), stm(io(a, "y", b), "x", stm(c, "u", d)))
	checkCore(t, do(dos(do(dos(a)))), a)
	checkCore(t, do(dos(do(a, b))), io(a, "u", b))
	checkCore(t, do(a, cond(b, c, d)), io(a, "u", bareIf(b, c, d)))
	checkCore(t, dos(cond(b, c, d)), bareIf(b, c, d))
	checkCore(t, do(bind("x", cond(a, b, c)), d), io(bareIf(a, b, c), "x", d))
	checkCore(t, do(cond(a, b, c), d), io(bareIf(a, b, c), "u", d))
	checkCore(t, cond(do(a, b), dos(c, d), do(d)), bareIf(io(a, "u", b), stm(c, "u", d), d))
}

// place is a tree with a place in it, made of what is put there.
type place func(api.Expr) api.Expr

// places are each kind that is no sugar, with a place for each of its Kids.
func places() []place {
	y, z := v("y"), number(7)
	return []place{
		func(e api.Expr) api.Expr { return e },
		func(e api.Expr) api.Expr { return lam("x", e) },
		func(e api.Expr) api.Expr { return app(e, y) },
		func(e api.Expr) api.Expr { return app(y, e) },
		func(e api.Expr) api.Expr { return app(e, e) },
		func(e api.Expr) api.Expr { return let("x", e, y) },
		func(e api.Expr) api.Expr { return let("x", y, e) },
		func(e api.Expr) api.Expr { return of(api.ECase, e, alt("A", y), alt("B", z, "p", "q")) },
		func(e api.Expr) api.Expr { return of(api.ECase, y, alt("A", e), alt("B", z, "p", "q")) },
		func(e api.Expr) api.Expr { return of(api.ECase, y, alt("A", z), alt("B", e, "p", "q")) },
		func(e api.Expr) api.Expr { return of(api.ECase, e, alt("True", e, "x"), alt("False", e)) },
		func(e api.Expr) api.Expr { return op("+", e, y) },
		func(e api.Expr) api.Expr { return op("<", y, e) },
	}
}

// P7.1: sugar in each Kid of each kind, on two levels.
func TestPlaces(t *testing.T) {
	a, b, c := v("a"), v("b"), v("c")
	for e, want := range pairs([][2]api.Expr{
		{cond(a, b, c), bareIf(a, b, c)}, {do(a), a}, {dos(b), b}, {do(a, bind("x", b), c), io(a, "u", io(b, "x", c))}, {dos(bind("x", a), b, c), stm(a, "x", stm(b, "u", c))},
	}) {
		for _, outer := range places() {
			checkCore(t, outer(e), outer(want))
			for _, inner := range places() {
				checkCore(t, outer(inner(e)), outer(inner(want)))
				checkCore(t, outer(do(bind("x", inner(e)), inner(e))), outer(io(inner(want), "x", inner(want))))
				checkCore(t, outer(dos(inner(e), inner(e))), outer(stm(inner(want), "u", inner(want))))
				checkCore(t, outer(cond(inner(e), c, inner(e))), outer(bareIf(inner(want), c, inner(want))))
			}
		}
	}
}

func pairs(l [][2]api.Expr) func(func(a, b api.Expr) bool) {
	return func(yield func(a, b api.Expr) bool) {
		for _, p := range l {
			if !yield(p[0], p[1]) {
				return
			}
		}
	}
}

// P7.2: what is bare stays as it was.
func TestBareStays(t *testing.T) {
	for _, e := range []api.Expr{number(0), number(9), v("x"), v("u"), con("A"), bareIf(v("a"), v("b"), v("c")), io(v("a"), "x", v("b")), stm(v("a"), "u", v("b"))} {
		for _, outer := range places() {
			for _, inner := range places() {
				checkCore(t, outer(inner(e)), outer(inner(e)))
			}
		}
	}
	// Lists that are not nil, and have nothing, say the same.
	e := v("x")
	e.Names, e.Kids = []string{}, []api.Expr{}
	checkCore(t, e, v("x"))
	checkCore(t, do(e), v("x"))
}
