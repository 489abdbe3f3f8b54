package tree

import (
	"fmt"
	"slices"
	"testing"

	"dawdler/api"
)

func checkFree(t *testing.T, e api.Expr, want ...string) {
	t.Helper()
	if !Check(e) || !slices.Equal(Free(e), want) {
		t.Errorf("%s: %v; want %v", short(e), Free(e), want)
	}
}

// P4.2: names bound by ELam, and by ELet in both Kids.
func TestBound(t *testing.T) {
	x, y := v("x"), v("y")
	checkFree(t, lam("x", x))
	checkFree(t, lam("x", y), "y")
	checkFree(t, lam("x", lam("y", app(x, y))))
	checkFree(t, lam("x", lam("x", app(x, y))), "y")
	checkFree(t, lam("x", app(lam("x", x), x)))
	checkFree(t, app(lam("x", x), x), "x")
	checkFree(t, app(x, lam("x", x)), "x")
	checkFree(t, app(app(lam("x", x), lam("x", y)), app(y, x)), "y", "x")
	checkFree(t, let("x", x, x))
	checkFree(t, let("x", x, y), "y")
	checkFree(t, let("x", y, x), "y")
	checkFree(t, let("x", app(x, y), let("y", app(x, y), x)), "y")
	checkFree(t, app(let("x", x, x), x), "x")
	checkFree(t, op("+", lam("x", x), lam("y", app(x, y))), "x")
	checkFree(t, of(api.EIf, lam("x", x), y, x), "y", "x")
}

// P4.2: names bound by EAlt: in its Kid, and neither in what the case is of nor in its other ways.
func TestBoundByAlt(t *testing.T) {
	x, y := v("x"), v("y")
	checkFree(t, of(api.ECase, con("A"), alt("A", x, "x")))
	checkFree(t, of(api.ECase, x, alt("A", app(x, y), "x")), "x", "y")
	checkFree(t, of(api.ECase, con("A"), alt("A", app(x, y), "y", "x")))
	checkFree(t, of(api.ECase, con("A"), alt("A", x, "x"), alt("B", x)), "x")
	checkFree(t, of(api.ECase, con("A"), alt("A", x), alt("B", app(y, x), "x")), "x", "y")
	checkFree(t, of(api.ECase, con("A"), alt("A", x, "y"), alt("B", y, "x")), "x", "y")
	checkFree(t, of(api.ECase, con("A"), alt("A", of(api.ECase, x, alt("A", x, "x")), "x"), alt("B", y)), "y")
}

// P4.2: names bound by EBind: in the Kids behind it, and neither in its own Kid nor ahead of it.
func TestBoundByBind(t *testing.T) {
	x, y, z := v("x"), v("y"), v("z")
	for _, do := range []int{api.EDo, api.EDos} {
		checkFree(t, of(do, bind("x", y), x), "y")
		checkFree(t, of(do, bind("x", x), x), "x")
		checkFree(t, of(do, bind("x", con("A")), x, x))
		checkFree(t, of(do, x, bind("x", y), x), "x", "y")
		checkFree(t, of(do, y, bind("x", z), bind("y", x), app(x, y)), "y", "z")
		checkFree(t, of(do, bind("x", y), bind("y", x), app(x, y)), "y")
		checkFree(t, of(do, bind("x", con("A")), bind("x", x), bind("x", x), x))
		checkFree(t, of(do, bind("x", con("A")), lam("y", of(do, bind("z", x), app(y, z)))))
		checkFree(t, of(do, bind("x", of(do, bind("y", x), app(x, y))), app(x, y)), "x", "y")
		// Behind its EDo it is bound no longer, however often it was.
		checkFree(t, app(of(do, bind("x", con("A")), bind("x", con("A")), x), x), "x")
		checkFree(t, of(do, of(do, bind("x", con("A")), x), x), "x")
		checkFree(t, lam("x", app(of(do, bind("x", con("A")), x), x)))
		checkFree(t, of(do, bind("x", con("A")), of(do, bind("x", x), x), x))
	}
}

// P4.2: each name once, by its first place, a tree ahead of its Kids, and these in order.
func TestFreeOrder(t *testing.T) {
	a, b, c := v("a"), v("b"), v("c")
	checkFree(t, app(a, a), "a")
	checkFree(t, app(app(c, b), app(a, app(b, c))), "c", "b", "a")
	checkFree(t, app(lam("a", app(a, b)), app(c, app(a, b))), "b", "c", "a")
	checkFree(t, of(api.ECase, c, alt("A", a, "b"), alt("B", b, "a")), "c", "a", "b")
	checkFree(t, of(api.EDo, bind("a", c), bind("b", a), app(b, v("d")), a), "c", "d")
	checkFree(t, let("z", b, op("==", a, b)), "b", "a")
	e, want := v("n0"), []string{}
	for i := 1; i < 400; i++ {
		want = append(want, fmt.Sprint("n", i))
	}
	var l []api.Expr
	for _, s := range want {
		l = append(l, v(s))
	}
	checkFree(t, of(api.EDo, append(l, append(l, e)...)...), append(want, "n0")...)
}

// P4.2: constructors, and names that bind, are none that are free.
func TestNotFree(t *testing.T) {
	checkFree(t, number(7))
	checkFree(t, con("A"))
	checkFree(t, app(con("A"), number(1)))
	checkFree(t, lam("x", con("A")))
	checkFree(t, of(api.ECase, con("A"), alt("B", number(1), "x", "y")))
}

// P4.2: of a tree that may not be none.
func TestFreeOfNone(t *testing.T) {
	x := v("x")
	for _, e := range []api.Expr{{}, alt("A", x), bind("a", x), app(x), app(x, v("X")), app(x, bind("a", x)), of(99, x), lam("x", chain(30)), wide(1001), of(api.EDo, x, bind("a", x))} {
		if l := Free(e); len(l) != 0 {
			t.Errorf("%s: %v", short(e), l)
		}
	}
}

// R4: trees are not changed, nor are lists with room behind them, and answers are memory of their own.
func TestMemory(t *testing.T) {
	names := []string{"a", "spare", "spare"}
	kids := []api.Expr{bind("b", v("x")), app(v("y"), v("b")), v("spare"), v("spare")}
	kids[0].Names = names[:1]
	e := of(api.EDo, kids[:2]...)
	args := []api.Sig{sig("a"), sig("b"), sig("spare")}
	p := api.Prog{Datas: []api.Data{{Name: "T", Params: names[:1], Forms: []api.Form{{Name: "A", Args: args[:2]}}}}, Defs: []api.Def{{Name: "f", Body: e}}}
	before := fmt.Sprint(names, kids, args, p)
	for range 2 {
		free := Free(e)
		if !Check(e) || Core(e) || !Prog(p) || Depth(e) != 3 || Size(e) != 6 || !slices.Equal(free, []string{"x", "y", "b"}) {
			t.Errorf("%v of %v", free, e)
		}
		all := free[:cap(free)]
		for i := range all {
			all[i] = "?"
		}
		if now := fmt.Sprint(names, kids, args, p); now != before {
			t.Errorf("%s, then %s", before, now)
		}
	}
}
