package sugar

import (
	"math"
	"slices"
	"strings"
	"testing"

	"dawdler/api"
	"dawdler/tree"
)

// chain is a tree of just one part a level, around another one.
func chain(levels int, e api.Expr) api.Expr {
	for range levels {
		e = lam("y", e)
	}
	return e
}

// leaves are so many trees of one part.
func leaves(many int) []api.Expr { return slices.Repeat([]api.Expr{v("x")}, many) }

// lines are a block's, as it is to be, of leaves.
func lines(bind func(api.Expr, string, api.Expr) api.Expr, many int, last api.Expr) api.Expr {
	for range many {
		last = bind(v("x"), "u", last)
	}
	return last
}

// P7.1: trees as deep as may be. A line stands two levels below its block, what is behind it too, and an if's ways do.
func TestDepth(t *testing.T) {
	x := v("x")
	checkCore(t, chain(29, x), chain(29, x))
	checkNone(t, chain(30, x), api.ErrTree)
	checkCore(t, chain(28, do(x)), chain(28, x))
	checkCore(t, chain(28, dos(chain(0, x))), chain(28, x))
	checkNone(t, chain(29, do(x)), api.ErrTree)

	checkCore(t, chain(27, cond(x, x, x)), chain(27, bareIf(x, x, x)))
	checkNone(t, chain(28, cond(x, x, x)), api.ErrNest)
	checkNone(t, chain(29, cond(x, x, x)), api.ErrTree)
	checkCore(t, cond(chain(28, x), x, x), bareIf(chain(28, x), x, x))
	checkCore(t, cond(x, chain(27, x), x), bareIf(x, chain(27, x), x))
	checkNone(t, cond(x, chain(28, x), x), api.ErrNest)
	checkCore(t, cond(x, x, chain(27, x)), bareIf(x, x, chain(27, x)))
	checkNone(t, cond(x, x, chain(28, x)), api.ErrNest)
	checkNone(t, cond(chain(29, x), x, x), api.ErrTree)

	checkCore(t, chain(27, do(x, x)), chain(27, io(x, "u", x)))
	checkNone(t, chain(28, do(x, x)), api.ErrNest)
	checkNone(t, chain(28, dos(bind("y", x), x)), api.ErrTree)
	checkCore(t, do(chain(27, x), x), io(chain(27, x), "u", x))
	checkNone(t, do(chain(28, x), x), api.ErrNest)
	checkCore(t, dos(x, chain(27, x)), stm(x, "u", chain(27, x)))
	checkNone(t, dos(x, chain(28, x)), api.ErrNest)
	// The Kid of an EBind stands on the level where it stood.
	checkCore(t, do(bind("y", chain(27, x)), x), io(chain(27, x), "y", x))
	checkNone(t, do(bind("y", chain(28, x)), x), api.ErrTree)
}

// P7.1: an if in an if, down to where what is made of it is too deep.
func TestIfsInIfs(t *testing.T) {
	x := v("x")
	for at := range 3 {
		e, want := x, x
		for level := 1; level <= 30; level++ {
			kids, made := leaves(3), leaves(3)
			kids[at], made[at] = e, want
			e, want = of(api.EIf, kids...), bareIf(made[0], made[1], made[2])
			switch {
			case level == 30:
				checkNone(t, e, api.ErrTree)
			case tree.Depth(want) > 30:
				checkNone(t, e, api.ErrNest)
			default:
				checkCore(t, e, want)
			}
		}
		// The first Kid goes down by one level, its ways by two.
		if depth := tree.Depth(want); depth != []int{32, 61, 61}[at] {
			t.Errorf("%d: %d", at, depth)
		}
	}
}

// P7.1: blocks of as many lines as there can be: 14 of one part each, and a last one of two levels, are 30.
func TestLongBlocks(t *testing.T) {
	x := v("x")
	for many := range 31 {
		for last := range 3 {
			e, wantIO, wantSTM := append(leaves(many), chain(last, x)), lines(io, many, chain(last, x)), lines(stm, many, chain(last, x))
			if 2*many+1+last <= 30 {
				checkCore(t, do(e...), wantIO)
				checkCore(t, dos(e...), wantSTM)
			} else {
				checkNone(t, do(e...), api.ErrNest)
				checkNone(t, dos(e...), api.ErrNest)
			}
		}
	}
	for _, many := range []int{100, 998, 999} {
		checkNone(t, do(leaves(many)...), api.ErrNest)
		checkNone(t, dos(leaves(many)...), api.ErrNest)
	}
	checkNone(t, do(leaves(1000)...), api.ErrTree)
	checkNone(t, dos(leaves(1000)...), api.ErrTree)
	// A great block in each line of a great block, as many as may be.
	rows := slices.Repeat([]api.Expr{do(leaves(30)...)}, 32)
	checkNone(t, dos(rows...), api.ErrNest)
}

// ways is a case of so many ways, each with what is given.
func ways(many int, e api.Expr) []api.Expr {
	return slices.Repeat([]api.Expr{alt("A", e)}, many)
}

// P7.1: trees of as many parts as may be, and what is made of them, too.
func TestSize(t *testing.T) {
	x := v("x")
	of500 := of(api.ECase, append(leaves(1), ways(499, x)...)...)
	checkCore(t, of500, of500)
	if tree.Size(of500) != 1000 {
		t.Errorf("%d", tree.Size(of500))
	}
	checkNone(t, of(api.ECase, append(leaves(1), ways(500, x)...)...), api.ErrTree)
	// A do of one Kid is one part less.
	checkCore(t, of(api.ECase, append([]api.Expr{x}, ways(332, do(x))...)...), of(api.ECase, append([]api.Expr{x}, ways(332, x)...)...))
	// An if is two parts more, a line four, and one that binds three.
	for _, c := range []struct {
		e, want    api.Expr
		from, upto int
	}{
		{cond(x, x, x), bareIf(x, x, x), 4, 6}, {do(x, x), io(x, "u", x), 3, 6}, {dos(bind("y", x), x), stm(x, "y", x), 4, 6}, {dos(x, x, x), stm(x, "u", stm(x, "u", x)), 4, 11}, {do(x), x, 2, 1},
	} {
		for many := 1; 2+many*(1+c.from) <= 1010; many++ {
			for extra := range 3 {
				first := chain(extra, x)
				e := of(api.ECase, append([]api.Expr{first}, ways(many, c.e)...)...)
				want := of(api.ECase, append([]api.Expr{first}, ways(many, c.want)...)...)
				switch {
				case 2+extra+many*(1+c.from) > 1000:
					checkNone(t, e, api.ErrTree)
				case 2+extra+many*(1+c.upto) > 1000:
					checkNone(t, e, api.ErrNest)
				default:
					checkCore(t, e, want)
				}
			}
		}
	}
}

// P7.1: what is made of a tree is one part more than may be, or just as many.
func TestSizeBorder(t *testing.T) {
	x := v("x")
	for extra := range 6 {
		e := of(api.ECase, append([]api.Expr{chain(extra, x), alt("B", cond(x, x, x))}, ways(495, x)...)...)
		want := of(api.ECase, append([]api.Expr{chain(extra, x), alt("B", bareIf(x, x, x))}, ways(495, x)...)...)
		switch size := tree.Size(want); {
		case size != 999+extra:
			t.Fatalf("%d", size)
		case extra <= 1:
			checkCore(t, e, want)
		case extra <= 3:
			checkNone(t, e, api.ErrNest)
		default:
			checkNone(t, e, api.ErrTree)
		}
	}
}

// P7.1: trees that may not be, also where what is made of them would be too deep.
func TestWrong(t *testing.T) {
	x := v("x")
	many := leaves(40)
	wrong := []api.Expr{
		{}, {Kind: -1}, {Kind: 14}, {Kind: 99, Kids: leaves(1)}, {Kind: math.MinInt}, {Kind: math.MaxInt},
		alt("A", x), bind("a", x), {Kind: api.EBind}, {Kind: api.EAlt}, {Kind: api.EDo}, {Kind: api.EDos}, {Kind: api.EIf},
		number(-1), v(""), v("X"), v("of"), con("x"), con(""), v("abcdefghijklmnopqrstu"),
		do(bind("a", x)), do(x, bind("a", x)), dos(x, bind("a", x)), do(alt("A", x), x), do(x, alt("A", x)),
		do(bind("A", x), x), do(bind("", x), x), do(of(api.EBind, x), x), do(api.Expr{Kind: api.EBind, Names: []string{"a", "b"}, Kids: leaves(1)}, x), do(api.Expr{Kind: api.EBind, Names: []string{"a"}}, x), do(api.Expr{Kind: api.EBind, Names: []string{"a"}, Kids: leaves(2)}, x),
		cond(bind("a", x), x, x), cond(x, alt("A", x), x), cond(x, x, bind("a", x)), of(api.EIf, x, x), of(api.EIf, leaves(4)...), of(api.EIf, x),
		lam("x", bind("a", x)), app(x), app(leaves(3)...), app(x, alt("A", x)), op("?", x, x), op("+", x), let("x", x, bind("a", x)), of(api.ECase, x), of(api.ECase, x, x), of(api.ECase, alt("A", x), alt("B", x)), of(api.ECase, x, alt("A", x, "a", "a")),
		{Kind: api.EIf, Name: "x", Kids: leaves(3)}, {Kind: api.EIf, Num: 1, Kids: leaves(3)}, {Kind: api.EIf, Names: []string{"x"}, Kids: leaves(3)},
		{Kind: api.EDo, Name: "x", Kids: leaves(1)}, {Kind: api.EDo, Num: 1, Kids: leaves(1)}, {Kind: api.EDos, Names: []string{"x"}, Kids: leaves(1)},
	}
	for _, e := range wrong {
		checkNone(t, e, api.ErrTree)
		for _, outer := range places() {
			checkNone(t, outer(do(x, outer(bind("a", x)))), api.ErrTree)
			if e.Kind != api.EAlt && e.Kind != api.EBind {
				checkNone(t, outer(e), api.ErrTree)
				checkNone(t, do(append(slices.Clone(many), outer(e))...), api.ErrTree)
			}
		}
	}
	checkNone(t, do(append(slices.Clone(many), bind("a", x))...), api.ErrTree)
	checkNone(t, v(strings.Repeat("a", 1<<20)), api.ErrTree)
}

// R1: trees that hold themselves, that are very deep, or have more parts than anybody can go through.
func TestHostile(t *testing.T) {
	x := v("x")
	for _, kind := range []int{api.ELam, api.EApp, api.EIf, api.EDo, api.EDos, api.EBind, api.ECase, api.EAlt, api.ELet, api.EOp, 0} {
		for many := 1; many <= 3; many++ {
			e := api.Expr{Kind: kind, Kids: make([]api.Expr, many)}
			if kind == api.ELam || kind == api.ELet || kind == api.EBind {
				e.Names = []string{"x"}
			}
			if kind == api.EOp {
				e.Name = "+"
			}
			deep, broad := e, e
			for i := range e.Kids {
				e.Kids[i] = e
			}
			checkNone(t, e, api.ErrTree)
			deep.Kids = leaves(many)
			for range 1 << 16 {
				kids := leaves(many)
				kids[many-1] = deep
				deep.Kids = kids
			}
			checkNone(t, deep, api.ErrTree)
			broad.Kids = leaves(many)
			for range 29 {
				broad.Kids = slices.Repeat([]api.Expr{broad}, many)
			}
			if many == 1 && (kind == api.EDo || kind == api.EDos) {
				broad.Kids = broad.Kids[0].Kids
				checkCore(t, broad, x)
				continue
			}
			checkNone(t, broad, api.ErrTree)
		}
	}
	checkNone(t, do(leaves(1<<20)...), api.ErrTree)
}

// R4: a block's lines, from behind, may be left early, and gone through again.
func TestFromBehind(t *testing.T) {
	l := fromBehind([]api.Expr{v("a"), bind("x", v("b")), v("c")})
	for range 2 {
		names, does := "", ""
		for name, line := range l {
			names, does = names+name, does+line.Name
			if line.Name == "b" {
				break
			}
		}
		if names != "ux" || does != "cb" {
			t.Errorf("%s, %s", names, does)
		}
	}
}
