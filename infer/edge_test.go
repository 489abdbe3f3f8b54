package infer

import (
	"math"
	"slices"
	"strconv"
	"strings"
	"testing"

	"dawdler/api"
)

// P10.1: a constructor's type may end at a hole, that is whatever the case is of.
func TestEndsAtHole(t *testing.T) {
	env := slices.Concat(usual(), is("H", "a", "I", "a -> a", "J", "a -> b", "K", "a -> b -> c"))
	checkTypes(t, env, `\x -> case x of { H -> 1 }`, "a -> Int", `\x -> case x of { I y -> y }`, "a -> a", `\x -> case x of { J y -> y }`, "a -> b", `\x -> case x of { K y z -> P y z }`, "a -> (P b c)", `case 1 of { H -> True }`, "Bool", `case 1 of { I y -> y + 1 }`, "Int", `case not of { H -> 1 }`, "Int", `case not of { I f -> f True }`, "Bool", `case True of { J f -> f 1 ; True -> any }`, "a",
		`case 1 of { I y -> not y }`, "", `\x -> case x of { I y -> y + 1 ; H -> 2 ; True -> 1 }`, "", `\x -> case x of { H -> 1 ; J z -> 2 ; True -> 3 }`, "Bool -> Int", `\x -> case x of { H y -> 1 }`, "", `\x -> case x of { I -> 1 }`, "", `\x -> case x of { I y z -> 1 }`, "", `\x -> case x of { J -> 1 }`, "", `\x -> case x of { K y -> 1 }`, "", `\x -> case x of { K x y z -> 1 }`, "",
		`H`, "a", `I`, "a -> a", `H H`, "a", `J 1`, "a", `P H (J not)`, "P a b")
}

// P10.1: a function is -> of just two; with another number of Args it is a type as any other.
func TestOtherArrows(t *testing.T) {
	one, three, none := c("->", h(0)), c("->", h(0), h(1), h(2)), c("->")
	env := append(usual(), forAll("X", one), forAll("Y", three), forAll("Z", none), forAll("U", fn(h(0), c("->", h(0)))), forAll("w", three), forAll("z", none), forAll("u", one))
	for _, x := range []struct {
		src  string
		want api.Type
	}{
		{"X", one}, {"Y", three}, {"Z", none}, {"w", three}, {`\x -> case x of { X -> 1 }`, fn(one, c("Int"))}, {`\x -> case x of { Y -> 1 }`, fn(three, c("Int"))}, {`\x -> case x of { Z -> 1 }`, fn(none, c("Int"))}, {`\x -> case x of { U y -> y }`, fn(one, h(0))}, {`case w of { Y -> z }`, none},
	} {
		got, err := Type(env, bare(x.src))
		if err != api.OK || !alike(got, x.want) {
			t.Errorf("%s: %s, %d; want %s", x.src, short(got), err, short(x.want))
		}
	}
	checkTypes(t, env, `\x -> case x of { X y -> 1 }`, "", `\x -> case x of { Y y -> 1 }`, "", `\x -> case x of { Y y z -> 1 }`, "", `\x -> case x of { Y y z u -> 1 }`, "", `\x -> case x of { U -> 1 }`, "", `\x -> case x of { U y z -> 1 }`, "", `w 1`, "", `z 1`, "", `u 1`, "", `w 1 2`, "", `same w u`, "", `same w not`, "")
}

// P10.1: of a name that is assumed twice the last one tells, also where the one ahead, or the one behind, would have no type.
func TestAssumedTwice(t *testing.T) {
	env := is("x", "Int", "C", "Int -> R", "x", "Bool", "y", "a", "C", "Bool -> R", "y", "a -> a", "x", "P Int Bool")
	checkTypes(t, env, "x", "P Int Bool", "y", "a -> a", "y x", "P Int Bool", "C", "Bool -> R", "x + 1", "", `\r -> case r of { C b -> b }`, "R -> Bool", `C 1`, "", `\x -> x`, "a -> a", `let x = 1 in x + 1`, "Int", "C x", "")
	checkTypes(t, env[:4], "x", "Bool", "C", "Int -> R", "y", "a")
	checkTypes(t, env[1:2], `\r -> case r of { C b -> b + 1 }`, "R -> Int")
}

// P10.1: the holes of what is assumed have any numbers, which may be those of others, and of new ones.
func TestNumbersOfHoles(t *testing.T) {
	great := math.MaxInt
	env := []api.Assume{
		forAll("f", fn(h(0), h(1))), forAll("g", fn(h(1), h(0))), forAll("i", fn(h(great), h(great))), forAll("p", fn(h(great), fn(h(0), c("P", h(great), h(0))))),
		{Name: "q", Is: api.Scheme{All: []int{3, 0, 7}, Ty: c("Q", h(0), h(7), h(3), h(0))}}, {Name: "k", Is: api.Scheme{All: []int{2, 5}, Ty: fn(h(5), fn(h(2), h(5)))}}, forAll("s", fn(h(0), fn(h(0), c("Int")))),
	}
	checkTypes(t, env, "f", "a -> b", "g", "a -> b", "i", "a -> a", "i i", "a -> a", "p", "a -> b -> (P a b)", "p f g", "P (a -> b) (c -> d)", "p (i 1) (i i)", "P Int (a -> a)", "q", "Q a b c a", "p q q", "P (Q a b c a) (Q d e f d)", `\x -> \y -> p y x`, "a -> b -> (P b a)", `\x -> \y -> \z -> k (p x (p y z)) (s x z)`, "a -> b -> a -> (P a (P b a))",
		`\x -> let g = f x in p g (i x)`, "a -> (P b a)", `\x -> \y -> k y x`, "a -> b -> b", `\x -> k (\y -> y) (s x 1)`, "Int -> a -> a", `p q (\x -> \y -> y)`, "P (Q a b c a) (d -> e -> e)", "k (p 1 i) (p f q)", "P Int (a -> a)")
}

// P10.1: holes are numbered by their first place in the type, more of them than there are letters, too.
func TestNumbered(t *testing.T) {
	many := c("R")
	for n := range 50 {
		many.Args = append(many.Args, h((n*7+3)%50), h((n*7+3)%50))
	}
	want := c("R")
	for n := range 50 {
		want.Args = append(want.Args, h(n), h(n))
	}
	for _, x := range []struct {
		src  string
		want api.Type
	}{{"m", want}, {"(let x = m in x)", want}, {`\x -> m`, fn(h(0), turned(want, 1))}, {`\x -> \y -> k m y`, fn(h(0), fn(h(1), turned(want, 2)))}, {"k m m", want}} {
		got, err := Type(append(usual(), forAll("m", many)), bare(x.src))
		if err != api.OK || !alike(got, x.want) {
			t.Errorf("%s: %s, %d", x.src, short(got), err)
		}
	}
}

// turned is a type whose holes have greater numbers.
func turned(t api.Type, by int) api.Type {
	if t.Name == "" {
		return h(t.N + by)
	}
	args := []api.Type{}
	for _, arg := range t.Args {
		args = append(args, turned(arg, by))
	}
	return c(t.Name, args...)
}

// free is an assumption of a scheme that is for all holes of these numbers only.
func free(t api.Type, all ...int) api.Assume {
	return api.Assume{Name: "x", Is: api.Scheme{All: all, Ty: t}}
}

// wrongAssumes may not be assumed.
func wrongAssumes() []api.Assume {
	self := c("T", h(0))
	self.Args[0] = self
	twice := c("Int")
	for range 70 {
		twice = fn(twice, twice)
	}
	return []api.Assume{
		free(h(0)), free(h(3)), free(fn(h(0), h(1)), 0), free(fn(h(0), h(1)), 1), free(c("T", c("Int"), h(5))), free(chain(59, h(0))), free(h(0), 1), free(h(0), 0, 0), free(c("Int"), 0), free(fn(h(1), h(1)), 1, 2), free(h(0), -1), free(h(-1), -1), free(h(math.MinInt)),
		free(api.Type{Name: "T", N: 1}), free(api.Type{Args: []api.Type{h(0)}}, 0), free(c(strings.Repeat("n", 21))), free(chain(60, c("Int"))), free(chain(60, h(0)), 0), free(broad(2000, c("Int"))), free(broad(2000, h(0)), 0), free(self), free(twice), free(fn(c("Int"), self)), {},
	}
}

// P10.1: ErrArg of schemes that may not be assumed, named or not, first or last, and even if another one of the name is behind.
func TestWrongAssumes(t *testing.T) {
	fine := usual()
	for _, a := range wrongAssumes() {
		for _, name := range []string{"x", "y", "", "C", "k"} {
			a.Name = name
			for _, src := range []string{"1", "k", `\x -> x`, "k 1 1", "1 1", "C"} {
				checkWrong(t, append(slices.Clone(fine), a), bare(src), api.ErrArg)
				checkWrong(t, append([]api.Assume{a}, fine...), bare(src), api.ErrArg)
				checkWrong(t, slices.Concat(fine[:3], []api.Assume{a}, fine[3:], is("x", "Int", "C", "Int")), bare(src), api.ErrArg)
			}
			checkWrong(t, []api.Assume{a}, bare("1"), api.ErrArg)
		}
	}
}

// of is a tree of some Kids.
func of(kind int, kids ...api.Expr) api.Expr { return api.Expr{Kind: kind, Kids: kids} }

func v(s string) api.Expr { return api.Expr{Kind: api.EVar, Name: s} }

// deep is a tree of so many levels, wide one of so many parts, an odd number of them.
func deep(levels int) api.Expr {
	e := v("any")
	for range levels - 1 {
		e = of(api.EApp, e, v("any"))
	}
	return e
}
func wide(parts int) api.Expr {
	if parts <= 1 {
		return v("any")
	}
	left := (parts-1)/2 | 1
	return of(api.EApp, wide(left), wide(parts-1-left))
}

// wrongTrees are not bare.
func wrongTrees() []api.Expr {
	one, x := api.Expr{Kind: api.EInt, Num: 1}, v("any")
	self := of(api.EApp, x, x)
	self.Kids[0] = self
	twice := x
	for range 70 {
		twice = of(api.EApp, twice, twice)
	}
	return []api.Expr{
		{}, {Kind: -1}, {Kind: 14}, {Kind: math.MaxInt}, {Kind: math.MinInt}, {Kind: api.EInt, Num: -1}, {Kind: api.EInt, Name: "x"}, {Kind: api.EInt, Names: []string{"x"}}, of(api.EInt, one), v(""), v("X"), v("let"), {Kind: api.EVar, Name: "x", Num: 1}, {Kind: api.ECon, Name: "x"}, {Kind: api.ECon},
		of(api.ELam, one), {Kind: api.ELam, Names: []string{"x"}}, {Kind: api.ELam, Names: []string{"x", "y"}, Kids: []api.Expr{one}}, {Kind: api.ELam, Names: []string{"X"}, Kids: []api.Expr{one}}, of(api.EApp), of(api.EApp, one), of(api.EApp, one, one, one), {Kind: api.ELet, Names: []string{"x"}, Kids: []api.Expr{one}}, of(api.ELet, one, one),
		of(api.ECase), of(api.ECase, one), of(api.ECase, one, one), of(api.ECase, alt("N", one), alt("N", one)), {Kind: api.ECase, Names: []string{"x"}, Kids: []api.Expr{one, alt("N", one)}}, of(api.ECase, one, alt("n", one)), of(api.ECase, one, alt("C", one, "x", "x")), of(api.ECase, one, alt("C", one, "X")), alt("N", one), of(api.EApp, alt("N", one), one),
		{Kind: api.EOp, Name: "+", Kids: []api.Expr{one}}, {Kind: api.EOp, Name: "=", Kids: []api.Expr{one, one}}, {Kind: api.EOp, Kids: []api.Expr{one, one}},
		of(api.EIf, one, one, one), of(api.EIf, v("True"), one, one), of(api.EDo, one), of(api.EDos, one), of(api.EDo), {Kind: api.EBind, Names: []string{"x"}, Kids: []api.Expr{one}}, of(api.EDo, api.Expr{Kind: api.EBind, Names: []string{"x"}, Kids: []api.Expr{one}}, one),
		deep(31), wide(1001), self, twice,
	}
}

func alt(con string, e api.Expr, names ...string) api.Expr {
	return api.Expr{Kind: api.EAlt, Name: con, Names: names, Kids: []api.Expr{e}}
}

// P10.1: ErrTree of trees that are not bare, as a whole or in a part.
func TestWrongTrees(t *testing.T) {
	for _, e := range wrongTrees() {
		for _, whole := range []api.Expr{e, {Kind: api.ELam, Names: []string{"x"}, Kids: []api.Expr{e}}, of(api.EApp, v("any"), e), of(api.ECase, v("any"), alt("N", e))} {
			checkWrong(t, usual(), whole, api.ErrTree)
			checkWrong(t, nil, whole, api.ErrTree)
		}
	}
	function := api.Expr{Kind: api.ELam, Names: []string{"x"}, Kids: []api.Expr{wide(999)}}
	for _, e := range []api.Expr{deep(30), wide(999)} {
		if got, err := Type(usual(), e); err != api.OK || !alike(got, h(0)) {
			t.Errorf("%s, %d", short(got), err)
		}
	}
	if got, err := Type(usual(), function); err != api.OK || !alike(got, fn(h(0), h(1))) {
		t.Errorf("%s, %d", short(got), err)
	}
}

// P10.1: ErrName of names, and constructors, that are not assumed, wherever they stand, and though they are bound elsewhere.
func TestWrongNames(t *testing.T) {
	for _, src := range []string{"x", "k x", "x k", `\y -> x`, `k (\x -> x) x`, `k x (\x -> x)`, "let y = x in 1", "let x = 1 in y", "k (let x = 1 in x) x", "case x of { N -> 1 }", "case N of { N -> x }", "case N of { C x t -> 1 ; N -> x }", "case N of { N -> x ; C x t -> 1 }", "k x (case N of { C x t -> x })", "case x of { C x t -> 1 }", "1 + x", "x == 1",
		"Q", "Q 1", "C Q N", `\x -> Q`, "let x = Q in 1", "let x = 1 in Q", "case Q of { N -> 1 }", "case N of { Q -> 1 }", "case N of { N -> Q }", "case N of { N -> 1 ; Q x y -> 2 }", "case N of { N -> case N of { Q -> 1 } }", "Q + 1", "1 < Q", "L", "Int", "List", "U"} {
		checkWrong(t, usual(), bare(src), api.ErrName)
	}
	for _, src := range []string{"k", "C", "case k of { N -> 1 }", "N", "case 1 of { N -> 1 }"} {
		checkWrong(t, nil, bare(src), api.ErrName)
		checkWrong(t, is("", "a", "K", "a", "n", "a", "c", "a", "K1", "a", "k'", "a", "kk", "a"), bare(src), api.ErrName)
	}
}

// P10.1: of several errors the first one that is named.
func TestFirstError(t *testing.T) {
	wrong := wrongAssumes()[0]
	noTree, noName, noType := of(api.EIf, v("x"), v("q"), v("q")), bare("k q (1 1)"), bare("1 1")
	for _, env := range [][]api.Assume{{wrong}, append(usual(), wrong), append([]api.Assume{wrong}, usual()...)} {
		checkWrong(t, env, noTree, api.ErrTree)
		checkWrong(t, env, noName, api.ErrArg)
		checkWrong(t, env, noType, api.ErrArg)
		checkWrong(t, env, bare("1"), api.ErrArg)
	}
	checkWrong(t, usual(), noTree, api.ErrTree)
	checkWrong(t, nil, noTree, api.ErrTree)
	checkWrong(t, nil, of(api.EDo, bare("1 1")), api.ErrTree)
	checkWrong(t, usual(), noName, api.ErrName)
	checkWrong(t, usual(), bare("1 1 q"), api.ErrName)
	checkWrong(t, usual(), bare("k (1 1) Q"), api.ErrName)
	checkWrong(t, usual(), bare("k (1 1) (case N of { Q -> 1 })"), api.ErrName)
	checkWrong(t, usual(), noType, api.ErrType)
	checkWrong(t, nil, noType, api.ErrType)
}

// P10.2: what is assumed, and not named, changes nothing, whatever it is and wherever it stands.
func TestNotNamed(t *testing.T) {
	more := append(is("unused", "a", "Q", "a -> b", "", "a", "1", "Int", "->", "Int", "x", "Int", "y", "Bool", "f", "a -> Int"), forAll("w", broad(1999, h(0))), forAll("z", chain(59, h(0))), forAll("m", broad(1999, c("Int"))))
	for _, src := range []string{"1", "k", `\x -> x`, `\x -> \y -> x`, `\y -> let f = \x -> y in f`, `let f = \x -> f x in f`, `\x -> case x of { C y f -> P y f ; N -> any }`, "1 1", `\x -> x x`, "C 1 (C True N)", `\y -> let f = y in P (f 1) (f True)`} {
		want, wantErr := Type(usual(), bare(src))
		for at := range usual() {
			env := slices.Insert(usual(), at, more...)
			got, err := Type(env, bare(src))
			if err != wantErr || !alike(got, want) {
				t.Errorf("%s: %s, %d; want %s, %d", src, short(got), err, short(want), wantErr)
			}
		}
		if got, err := Type(append(usual(), more...), bare(src)); err != wantErr || !alike(got, want) {
			t.Errorf("%s: %s, %d; want %s, %d", src, short(got), err, short(want), wantErr)
		}
	}
}

// P10.2: what does nothing but tell its name, applied, has the type of what it is applied to.
func TestTellsItsName(t *testing.T) {
	env := append(usual(), is("id", "a -> a")...)
	for _, src := range []string{"1", "k", "N", "C 1 N", `\x -> x`, `\x -> \y -> P y x`, "any", "True", "fst", "let x = N in P x x", "1 1", `\x -> x x`, "1 + 2", "P k fst"} {
		want, wantErr := Type(env, bare(src))
		for _, id := range []string{`(\x -> x)`, `(\k -> k)`, "id", "(id id)", `(let i = \x -> x in i)`, `(\x -> case x of { One x -> x }) (One id)`, `(\x -> let y = x in y)`} {
			got, err := Type(env, bare(id+" ("+src+")"))
			if err != wantErr || !alike(got, want) {
				t.Errorf("%s (%s): %s, %d; want %s, %d", id, src, short(got), err, short(want), wantErr)
			}
		}
	}
}

// P10.1: many names in many levels, each found as the last one that was assumed.
func TestManyNames(t *testing.T) {
	src, want := "k (k n0 n1) n14", ""
	for n := range 15 {
		src = `\n` + strconv.Itoa(14-n) + " -> " + src
		want += string(rune('a'+n)) + " -> "
	}
	checkType(t, usual(), src, want+"a")
	names := []string{}
	wide := c("R")
	for n := 57; n >= 0; n-- {
		names = append([]string{"n" + strconv.Itoa(n)}, names...)
		wide = fn(h(n), wide)
	}
	env := append(usual(), forAll("W", wide))
	checkType(t, env, `\r -> case r of { W `+strings.Join(names, " ")+` -> n57 }`, "R -> a")
	checkType(t, env, `\r -> case r of { W `+strings.Join(names, " ")+` -> P (n0 + 1) (not n57) }`, "R -> (P Int Bool)")
	checkType(t, env, `\r -> case r of { W `+strings.Join(names[1:], " ")+` -> n57 }`, "")
	checkType(t, env, `\r -> case r of { W `+strings.Join(names, " ")+` more -> n57 }`, "")
}
