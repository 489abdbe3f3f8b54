package tree

import (
	"fmt"
	"math"
	"slices"
	"strings"
	"testing"

	"dawdler/api"
)

func number(n int) api.Expr      { return api.Expr{Kind: api.EInt, Num: n} }
func v(s string) api.Expr        { return api.Expr{Kind: api.EVar, Name: s} }
func con(s string) api.Expr      { return api.Expr{Kind: api.ECon, Name: s} }
func app(l ...api.Expr) api.Expr { return of(api.EApp, l...) }

func of(kind int, l ...api.Expr) api.Expr { return api.Expr{Kind: kind, Kids: l} }

func lam(s string, e api.Expr) api.Expr {
	return api.Expr{Kind: api.ELam, Names: []string{s}, Kids: []api.Expr{e}}
}

func let(s string, a, b api.Expr) api.Expr {
	return api.Expr{Kind: api.ELet, Names: []string{s}, Kids: []api.Expr{a, b}}
}

func alt(c string, e api.Expr, l ...string) api.Expr {
	return api.Expr{Kind: api.EAlt, Name: c, Names: l, Kids: []api.Expr{e}}
}

func op(s string, l ...api.Expr) api.Expr {
	return api.Expr{Kind: api.EOp, Name: s, Kids: l}
}

func bind(s string, e api.Expr) api.Expr {
	return api.Expr{Kind: api.EBind, Names: []string{s}, Kids: []api.Expr{e}}
}

// chain is a tree of just one part a level.
func chain(depth int) api.Expr {
	e := v("x")
	for range depth - 1 {
		e = lam("y", e)
	}
	return e
}

// wide is a tree of so many parts, on two levels.
func wide(size int) api.Expr {
	return of(api.EDo, slices.Repeat([]api.Expr{v("x")}, size-1)...)
}

// short is a tree as a text that is not too long to be told.
func short(x any) string {
	s := fmt.Sprintf("%v", x)
	return s[:min(len(s), 200)]
}

// checkMay asks for a tree that may be, with sugar or without, of which just these names are free.
func checkMay(t *testing.T, e api.Expr, core bool, free ...string) {
	t.Helper()
	if !Check(e) || Core(e) != core || !slices.Equal(Free(e), free) {
		t.Errorf("%s: %v, %v, %v; want true, %v, %v", short(e), Check(e), Core(e), Free(e), core, free)
	}
}

// checkMayNot asks for a tree that may not be, and that makes none that may be, wherever it stands.
func checkMayNot(t *testing.T, e api.Expr) {
	t.Helper()
	if Check(e) || Core(e) || len(Free(e)) != 0 {
		t.Errorf("%s: %v, %v, %v; want false, false, none", short(e), Check(e), Core(e), Free(e))
	}
	for i, whole := range []api.Expr{app(v("x"), e), app(e, v("x")), lam("x", e), let("x", v("y"), lam("y", e)), of(api.ECase, v("x"), alt("A", e)), of(api.EIf, v("x"), v("x"), e), of(api.EDos, bind("x", e), v("x"))} {
		if Check(whole) || Core(whole) || len(Free(whole)) != 0 {
			t.Errorf("%s may be within the %dth whole", short(e), i)
		}
	}
}

// P4.1, P4.2: the chapter's example.
func TestExample(t *testing.T) {
	checkMay(t, lam("x", app(v("x"), v("y"))), true, "y")
}

// P4.1: each Kind with the parts that it names.
func TestKinds(t *testing.T) {
	x, y, z := v("x"), v("y"), v("z")
	checkMay(t, number(0), true)
	checkMay(t, number(1), true)
	checkMay(t, number(math.MaxInt), true)
	checkMay(t, x, true, "x")
	checkMay(t, con("A"), true)
	checkMay(t, lam("a", x), true, "x")
	checkMay(t, app(x, y), true, "x", "y")
	checkMay(t, let("a", x, y), true, "x", "y")
	checkMay(t, of(api.ECase, x, alt("A", y)), true, "x", "y")
	checkMay(t, of(api.ECase, x, alt("A", y, "a"), alt("B", z, "a", "b"), alt("A", y)), true, "x", "y", "z")
	for _, s := range []string{"+", "-", "*", "/", "==", "<"} {
		checkMay(t, op(s, x, y), true, "x", "y")
	}
	checkMay(t, of(api.EIf, x, y, z), false, "x", "y", "z")
	for _, do := range []int{api.EDo, api.EDos} {
		checkMay(t, of(do, x), false, "x")
		checkMay(t, of(do, bind("a", x), y), false, "x", "y")
		checkMay(t, of(do, bind("a", x), y, bind("a", z), x), false, "x", "y", "z")
	}
}

// P4.1: parts that a Kind does not name are empty, but may be lists with room, or not.
func TestEmptyParts(t *testing.T) {
	x := v("x")
	for _, e := range []api.Expr{number(3), x, con("A"), lam("a", x), app(x, x), let("a", x, x), of(api.ECase, x, alt("A", x)), op("+", x, x), of(api.EIf, x, x, x), of(api.EDo, x), of(api.EDos, bind("a", x), x)} {
		if !Check(e) {
			t.Fatalf("%v may not be", e)
		}
		if e.Names == nil {
			with := e
			with.Names = []string{}
			checkMay(t, with, Core(e), Free(e)...)
			with.Names = []string{"n"}
			checkMayNot(t, with)
			with.Names = []string{""}
			checkMayNot(t, with)
		}
		if e.Kids == nil {
			with := e
			with.Kids = make([]api.Expr, 0, 3)
			checkMay(t, with, Core(e), Free(e)...)
			with.Kids = []api.Expr{x}
			checkMayNot(t, with)
		}
		if e.Name == "" {
			for _, s := range []string{"x", "A", "+", " "} {
				with := e
				with.Name = s
				checkMayNot(t, with)
			}
		}
		if e.Kind != api.EInt {
			for _, n := range []int{1, -1, math.MaxInt, math.MinInt} {
				with := e
				with.Num = n
				checkMayNot(t, with)
			}
		}
	}
	for _, n := range []int{1, -1} {
		a, b := alt("A", x), bind("a", x)
		a.Num, b.Num = n, n
		checkMayNot(t, of(api.ECase, x, a))
		checkMayNot(t, of(api.EDo, b, x))
	}
	b := bind("a", x)
	b.Name = "a"
	checkMayNot(t, of(api.EDo, b, x))
}

// P4.1: a number below 0.
func TestNumbers(t *testing.T) {
	for _, n := range []int{-1, -5, math.MinInt} {
		checkMayNot(t, number(n))
	}
}

// P4.1: Names that are none of their Kind.
func TestNames(t *testing.T) {
	x := v("x")
	long := strings.Repeat("a", 20)
	for _, s := range []string{"a", "z9", "aB", "ofs", long} {
		checkMay(t, v(s), true, s)
		checkMay(t, lam(s, v(s)), true)
		checkMay(t, let(s, v(s), v(s)), true)
		checkMay(t, of(api.ECase, x, alt("A", v(s), s)), true, "x")
		checkMay(t, of(api.EDo, bind(s, x), v(s)), false, "x")
	}
	for _, s := range []string{"", "A", "of", "dos", "9", "a b", "a-", "+", "->", "\xff", "ä", "a\x00", long + "a"} {
		checkMayNot(t, v(s))
		checkMayNot(t, lam(s, x))
		checkMayNot(t, let(s, x, x))
		checkMayNot(t, of(api.ECase, x, alt("A", x, s)))
		checkMayNot(t, of(api.ECase, x, alt("A", x, "a", s)))
		checkMayNot(t, of(api.EDo, bind(s, x), x))
	}
	great := strings.ToUpper(long)
	for _, s := range []string{"A", "Z9", "Ab", "Of", great} {
		checkMay(t, con(s), true)
		checkMay(t, of(api.ECase, x, alt(s, x)), true, "x")
	}
	for _, s := range []string{"", "a", "of", "9", "A b", "+", "->", "\xff", "Ä", great + "A"} {
		checkMayNot(t, con(s))
		checkMayNot(t, of(api.ECase, x, alt(s, x)))
		checkMayNot(t, of(api.ECase, x, alt("A", x), alt(s, x)))
	}
	for _, s := range []string{"", "x", "A", "++", "=", "->", "<-", "<=", ">", "%", "\\", " +", "\xff"} {
		checkMayNot(t, op(s, x, x))
	}
}

// P4.1: as many Names as a Kind asks, and no two alike.
func TestManyNames(t *testing.T) {
	x := v("x")
	for _, l := range [][]string{nil, {}, {"a", "b"}, {"a", "a"}, {"a", "b", "c"}} {
		checkMayNot(t, api.Expr{Kind: api.ELam, Names: l, Kids: []api.Expr{x}})
		checkMayNot(t, api.Expr{Kind: api.ELet, Names: l, Kids: []api.Expr{x, x}})
		checkMayNot(t, of(api.EDo, api.Expr{Kind: api.EBind, Names: l, Kids: []api.Expr{x}}, x))
	}
	checkMay(t, of(api.ECase, x, alt("A", x)), true, "x")
	checkMay(t, of(api.ECase, x, alt("A", x, "a", "b", "c", "d")), true, "x")
	for _, l := range [][]string{{"a", "a"}, {"a", "b", "a"}, {"b", "a", "a"}, {"a", "b", "c", "b"}} {
		checkMayNot(t, of(api.ECase, x, alt("A", x, l...)))
		checkMayNot(t, of(api.ECase, x, alt("B", x), alt("A", x, l...)))
	}
	// Ways of one case may have names alike, and so may those within each other.
	checkMay(t, of(api.ECase, x, alt("A", lam("a", v("a")), "a", "b"), alt("A", x, "b", "a")), true, "x")
}

// P4.1: there is no limit to a way's names.
func TestVeryManyNames(t *testing.T) {
	var l []string
	for i := range 200000 {
		l = append(l, fmt.Sprint("a", i))
	}
	checkMay(t, of(api.ECase, v("x"), alt("A", app(v("a0"), app(v("a199999"), v("a200000"))), l...)), true, "x", "a200000")
	checkMayNot(t, of(api.ECase, v("x"), alt("A", v("x"), append(l, "a0")...)))
	p := api.Prog{Datas: []api.Data{{Name: "T", Params: l, Forms: []api.Form{{Name: "A"}}}}}
	if !Prog(p) {
		t.Error("many Params")
	}
	p.Datas[0].Params = append(l, "a0")
	if Prog(p) {
		t.Error("many Params, two of them alike")
	}
}

// P4.1: as many Kids as a Kind asks.
func TestManyKids(t *testing.T) {
	x := v("x")
	for _, c := range []struct {
		e           api.Expr
		least, most int
	}{
		{number(1), 0, 0}, {v("x"), 0, 0}, {con("A"), 0, 0}, {lam("x", x), 1, 1}, {app(), 2, 2}, {let("x", x, x), 2, 2},
		{op("+"), 2, 2}, {op("<"), 2, 2}, {of(api.EIf), 3, 3}, {of(api.EDo), 1, 99}, {of(api.EDos), 1, 99},
	} {
		for n := range 6 {
			e := c.e
			e.Kids = slices.Repeat([]api.Expr{x}, n)
			if want := c.least <= n && n <= c.most; Check(e) != want {
				t.Errorf("a Kind %d of %d Kids: %v", e.Kind, n, !want)
			}
		}
	}
	for n := range 5 {
		kids := slices.Repeat([]api.Expr{x}, n)
		if a := (api.Expr{Kind: api.EAlt, Name: "A", Kids: kids}); Check(of(api.ECase, x, a)) != (n == 1) {
			t.Errorf("an EAlt of %d Kids", n)
		}
		if b := (api.Expr{Kind: api.EBind, Names: []string{"a"}, Kids: kids}); Check(of(api.EDo, b, x)) != (n == 1) {
			t.Errorf("an EBind of %d Kids", n)
		}
		ways := slices.Repeat([]api.Expr{alt("A", x)}, n)
		if Check(of(api.ECase, append([]api.Expr{x}, ways...)...)) != (n > 0) {
			t.Errorf("a case of %d ways", n)
		}
	}
	checkMayNot(t, of(api.ECase))
	checkMayNot(t, of(api.ECase, x))
}

// P4.1: an EAlt or EBind where none may stand, and another one where an EAlt has to.
func TestPlaces(t *testing.T) {
	x, a, b := v("x"), alt("A", v("x")), bind("a", v("x"))
	checkMayNot(t, a)
	checkMayNot(t, b)
	for _, odd := range []api.Expr{a, b} {
		checkMayNot(t, lam("x", odd))
		checkMayNot(t, app(odd, x))
		checkMayNot(t, app(x, odd))
		checkMayNot(t, let("x", odd, x))
		checkMayNot(t, let("x", x, odd))
		checkMayNot(t, of(api.ECase, odd, a))
		checkMayNot(t, of(api.ECase, x, alt("A", odd)))
		checkMayNot(t, op("+", odd, x))
		checkMayNot(t, op("+", x, odd))
		checkMayNot(t, of(api.EIf, odd, x, x))
		checkMayNot(t, of(api.EIf, x, odd, x))
		checkMayNot(t, of(api.EIf, x, x, odd))
		checkMayNot(t, of(api.EDo, odd))
		checkMayNot(t, of(api.EDos, odd))
		checkMayNot(t, of(api.EDo, x, odd))
		checkMayNot(t, of(api.EDos, b, odd))
		checkMayNot(t, of(api.EDo, bind("a", odd), x))
	}
	checkMayNot(t, of(api.EDo, a, x))
	checkMayNot(t, of(api.EDos, a, x))
	checkMayNot(t, of(api.EDo, b, a, x))
	checkMayNot(t, of(api.ECase, x, b))
	checkMayNot(t, of(api.ECase, x, x))
	checkMayNot(t, of(api.ECase, x, x, a))
	checkMayNot(t, of(api.ECase, x, a, x))
	checkMayNot(t, of(api.ECase, x, a, of(api.ECase, x, a)))
	checkMay(t, of(api.EDo, b, b, x, b, x), false, "x")
}

// P4.1: Kinds that there are not.
func TestNoKinds(t *testing.T) {
	x := v("x")
	for _, kind := range []int{0, -1, 14, 15, 100, 256 + api.EVar, 1<<32 + api.EVar, math.MinInt, math.MaxInt} {
		checkMayNot(t, of(kind))
		checkMayNot(t, of(kind, x))
		checkMayNot(t, of(kind, x, x))
		checkMayNot(t, api.Expr{Kind: kind, Name: "x"})
		checkMayNot(t, api.Expr{Kind: kind, Name: "A", Names: []string{"a"}, Kids: []api.Expr{x}})
		checkMayNot(t, of(api.ECase, x, of(kind)))
		checkMayNot(t, of(api.EDo, of(kind, x), x))
	}
	checkMayNot(t, api.Expr{})
}

// P4.1: a depth of MaxNest, and one more.
func TestDeepTrees(t *testing.T) {
	checkMay(t, chain(29), true, "x")
	checkMay(t, chain(30), true, "x")
	checkMayNot(t, chain(31))
	checkMay(t, app(v("y"), chain(29)), true, "y", "x")
	checkMayNot(t, app(v("y"), chain(30)))
	checkMayNot(t, app(chain(30), v("y")))
	checkMayNot(t, chain(1000))
	checkMayNot(t, chain(1<<16))
	// A way, and a line that binds, are levels too.
	checkMay(t, of(api.ECase, v("y"), alt("A", chain(28))), true, "y", "x")
	checkMayNot(t, of(api.ECase, v("y"), alt("A", chain(29))))
	checkMay(t, of(api.EDo, bind("a", chain(28)), v("y")), false, "x", "y")
	checkMayNot(t, of(api.EDo, bind("a", chain(29)), v("y")))
}

// P4.1: a size of MaxSize, and one more.
func TestGreatTrees(t *testing.T) {
	checkMay(t, wide(999), false, "x")
	checkMay(t, wide(1000), false, "x")
	checkMayNot(t, wide(1001))
	checkMayNot(t, wide(300000))
	half := app(wide(499), wide(500))
	checkMay(t, half, false, "x")
	checkMayNot(t, app(wide(500), wide(500)))
	checkMayNot(t, lam("a", half))
	ways := slices.Repeat([]api.Expr{alt("A", v("y"))}, 499)
	checkMay(t, of(api.ECase, append([]api.Expr{v("x")}, ways...)...), true, "x", "y")
	checkMayNot(t, of(api.ECase, append([]api.Expr{app(v("x"), v("x"))}, ways...)...))
	full := v("x")
	for range 8 {
		full = app(full, full)
	}
	checkMay(t, full, true, "x")
	checkMayNot(t, app(full, full))
}

// P4.1: of a tree that is too deep, or too great, nothing else is asked: it may not be, whatever it has.
func TestTooGreatAndWrong(t *testing.T) {
	deep, great := chain(40), wide(2000)
	deep.Kids = []api.Expr{{Kind: 99, Kids: []api.Expr{chain(50)}}}
	great.Kids[1999-1] = api.Expr{Kind: -1}
	checkMayNot(t, deep)
	checkMayNot(t, great)
}

// P4.1: an EIf, EDo, EDos or EBind anywhere in a tree.
func TestCore(t *testing.T) {
	x := v("x")
	for _, sugar := range []api.Expr{of(api.EIf, x, x, x), of(api.EDo, x), of(api.EDos, x), of(api.EDo, bind("a", x), x), of(api.EDos, bind("a", x), x)} {
		for i, within := range []func(e api.Expr) api.Expr{
			func(e api.Expr) api.Expr { return e },
			func(e api.Expr) api.Expr { return lam("x", e) },
			func(e api.Expr) api.Expr { return app(e, x) },
			func(e api.Expr) api.Expr { return app(x, e) },
			func(e api.Expr) api.Expr { return let("x", e, x) },
			func(e api.Expr) api.Expr { return let("x", x, e) },
			func(e api.Expr) api.Expr { return op("<", e, x) },
			func(e api.Expr) api.Expr { return op("*", x, e) },
			func(e api.Expr) api.Expr { return of(api.ECase, e, alt("A", x)) },
			func(e api.Expr) api.Expr { return of(api.ECase, x, alt("A", e)) },
			func(e api.Expr) api.Expr { return of(api.ECase, x, alt("B", x), alt("A", lam("y", app(x, e)))) },
		} {
			if e := within(sugar); !Check(e) || Core(e) {
				t.Errorf("%d: %v: %v, %v", i, e, Check(e), Core(e))
			}
			if e := within(x); !Check(e) || !Core(e) {
				t.Errorf("%d: %v: %v, %v", i, e, Check(e), Core(e))
			}
		}
		e := sugar
		for range 27 {
			e = app(x, e)
		}
		if !Check(e) || Core(e) {
			t.Errorf("%v: %v, %v", e, Check(e), Core(e))
		}
	}
}

// P4.1: Depth and Size, of trees that may be, and of others.
func TestDepthAndSize(t *testing.T) {
	x := v("x")
	for i, c := range []struct {
		e           api.Expr
		depth, size int
	}{
		{api.Expr{}, 1, 1}, {x, 1, 1}, {number(-1), 1, 1}, {api.Expr{Kids: []api.Expr{}}, 1, 1}, {lam("x", x), 2, 2}, {app(x, x), 2, 3},
		{app(lam("x", x), x), 3, 4}, {app(x, lam("x", x)), 3, 4}, {app(chain(4), chain(7), chain(5)), 8, 17}, {of(-7, x, of(99, x, of(0, x))), 4, 6},
		{of(api.ECase, x, alt("A", x), alt("B", app(x, x))), 4, 8}, {of(api.EDo, bind("a", x), x), 3, 4}, {wide(1000), 2, 1000}, {wide(1001), 2, 1001},
		{chain(30), 30, 30}, {chain(31), 31, 31}, {chain(99), 99, 99}, {chain(100), 100, 100}, {chain(101), 101, 101}, {chain(102), 101, 102}, {chain(150), 101, 150}, {chain(1 << 16), 101, 1 << 16}, {chain(99999), 101, 99999},
		{app(x, chain(99)), 100, 101}, {app(x, chain(100)), 101, 102}, {app(x, chain(101), x), 101, 104}, {app(x, chain(150), x), 101, 153}, {app(chain(98), chain(99), chain(97)), 100, 295},
		{wide(99999), 2, 99999}, {wide(100000), 2, 100000}, {wide(100001), 2, 100001}, {wide(100002), 2, 100001}, {wide(500000), 2, 100001},
		{chain(100000), 101, 100000}, {chain(100001), 101, 100001}, {chain(100002), 101, 100001}, {chain(200000), 101, 100001},
		{app(wide(50000), wide(49999)), 3, 100000}, {app(wide(50000), wide(50000)), 3, 100001}, {app(wide(50000), wide(50001)), 3, 100001},
	} {
		if Depth(c.e) != c.depth || Size(c.e) != c.size {
			t.Errorf("%d: a depth of %d, a size of %d; want %d, %d", i, Depth(c.e), Size(c.e), c.depth, c.size)
		}
	}
}

// R1: trees, and written types, that hold one list again and again have more parts than anybody can go through.
func TestOneListAgain(t *testing.T) {
	e, s := v("x"), api.Sig{Name: "Int"}
	for i := range 99 {
		if Depth(e) != i+1 {
			t.Errorf("a depth of %d, not %d", Depth(e), i+1)
		}
		e = app(e, e)
	}
	if Depth(e) != 100 || Size(e) != 100001 {
		t.Errorf("%d, %d", Depth(e), Size(e))
	}
	if e = app(e, e); Depth(e) != 101 || Size(e) != 100001 {
		t.Errorf("%d, %d", Depth(e), Size(e))
	}
	checkMayNot(t, e)
	for range 29 {
		s = api.Sig{Name: "->", Args: []api.Sig{s, s}}
	}
	if !Prog(arg(s)) || Prog(arg(api.Sig{Name: "T", Args: []api.Sig{s, s}})) {
		t.Error("written types of one list")
	}
}

// R1: a list may even hold itself.
func TestListOfItself(t *testing.T) {
	for n := 1; n <= 3; n++ {
		kids := make([]api.Expr, n)
		args := make([]api.Sig, n)
		for i := range n {
			kids[i] = api.Expr{Kind: api.EDo, Kids: kids}
			args[i] = api.Sig{Name: "A", Args: args}
		}
		e := of(api.EDo, kids...)
		if Depth(e) != 101 || Size(e) != 100001 || Check(e) || Core(e) || len(Free(e)) != 0 {
			t.Errorf("%d: %d, %d, %v, %v", n, Depth(e), Size(e), Check(e), Core(e))
		}
		if Prog(api.Prog{Defs: []api.Def{{Name: "f", Body: e}}}) || Prog(arg(args[0])) {
			t.Errorf("%d: a program of it may be", n)
		}
	}
}

// R1: so may two lists hold each other, and no two beside each other be one.
func TestListsOfEachOther(t *testing.T) {
	a, b := make([]api.Expr, 2), make([]api.Expr, 2)
	for _, l := range [][]api.Expr{a, b} {
		l[0], l[1] = app(a...), app(b...)
	}
	e := app(a...)
	if Depth(e) != 101 || Size(e) != 100001 || Check(e) || Core(e) || len(Free(e)) != 0 {
		t.Errorf("%d, %d, %v, %v", Depth(e), Size(e), Check(e), Core(e))
	}
	c, d := make([]api.Sig, 2), make([]api.Sig, 2)
	for _, l := range [][]api.Sig{c, d} {
		l[0], l[1] = sig("->", c...), sig("->", d...)
	}
	if Prog(arg(c...)) {
		t.Error("a program of written types that hold each other may be")
	}
}
