package infer

import (
	"slices"
	"strings"
	"testing"

	"dawdler/api"
	"dawdler/ty"
)

// parts is a type of so many parts, levels one of so many levels.
func parts(many int) api.Type  { return broad(many-1, c("Int")) }
func levels(many int) api.Type { return chain(many-1, c("Int")) }

// greatest is what tests of limits assume: what usual tests do, and more types than these tell, that hide what they are made of.
func greatest(more ...api.Assume) []api.Assume {
	return slices.Concat(usual(), is("H", "a", "E", "a -> R", "r", "R", "D", "a -> b -> (S a b)", "O", "S a b", "s", "S a b"), more)
}

// one is a text that equates two others' types, and is a number, whatever they are, without a function of them.
func one(a, b string) string {
	return "(case (case True of { True -> " + a + " ; False -> " + b + " }) of { H -> 1 })"
}

// checkLimit asks that a tree has that type with what is just as great as it may be, and none with one more.
func checkLimit(t *testing.T, src, want string, fits, not []api.Assume) {
	t.Helper()
	checkType(t, greatest(fits...), src, want)
	checkType(t, greatest(not...), src, "")
}

// checkFree asks that a tree has that type, whatever of both is assumed.
func checkFree(t *testing.T, src, want string, fits, not []api.Assume) {
	t.Helper()
	checkType(t, greatest(fits...), src, want)
	checkType(t, greatest(not...), src, want)
}

// P10.1: what is assumed may be as great, and as deep, as may be, and is told, closed, and looked at, so.
func TestGreatest(t *testing.T) {
	for _, x := range []api.Type{parts(2000), levels(60), broad(1999, h(0)), chain(59, h(0)), fn(parts(999), parts(1000)), fn(levels(59), levels(59)), fn(h(0), levels(59))} {
		env := greatest(forAll("b", x))
		for _, src := range []string{"b", "let x = b in x", "let x = b in let y = x in x", "let x = b in b", "case b of { H -> b }", "case b of { H -> b ; H -> b }", "case True of { True -> b ; False -> b }", "case True of { True -> b ; False -> any }", "let x = b in let b = 1 in x", "let x = (let x = b in x) in x"} {
			if got, err := Type(env, bare(src)); err != api.OK || !alike(got, x) {
				t.Errorf("%s: %s, %d", src, short(got), err)
			}
		}
		checkType(t, env, one("b", "b"), "Int")
		checkType(t, env, "let x = b in 1", "Int")
		checkType(t, env, `\u -> b`, "")
	}
}

// P10.1: a function is one level, and two parts, greater than what it makes, told at the end, and on the way.
func TestGreatFunctions(t *testing.T) {
	for _, x := range [][2]api.Type{{parts(1998), parts(1999)}, {levels(59), levels(60)}, {broad(1997, h(0)), broad(1998, h(0))}} {
		fits, not := []api.Assume{forAll("b", x[0])}, []api.Assume{forAll("b", x[1])}
		checkLimit(t, `let u = \x -> b in 1`, "Int", fits, not)
		checkLimit(t, `let u = \x -> `+one("x", "b")+` in 1`, "Int", fits, not)
		checkLimit(t, `case (\x -> b) of { H -> 1 }`, "Int", fits, not)
		checkLimit(t, `k 1 (let u = \x -> b in 1)`, "Int", fits, not)
		checkLimit(t, `let f = \x -> 1 in let g = \y -> b in f`, "a -> Int", fits, not)
		checkLimit(t, `case True of { True -> 1 ; False -> let u = \x -> b in 2 }`, "Int", fits, not)
		checkLimit(t, `(let u = \x -> b in 1) + 1`, "Int", fits, not)
		checkLimit(t, `1 == (let u = \x -> b in 1)`, "Bool", fits, not)
		checkType(t, greatest(not...), `\x -> b`, "")
		checkType(t, greatest(not...), `\x -> `+one("x", "b"), "")
		if got, err := Type(greatest(fits...), bare(`\x -> b`)); err != api.OK || !ty.Check(got) || len(got.Args) != 2 || got.Args[0].Name != "" || len(got.Args[1].Args) != len(x[0].Args) {
			t.Errorf("%s, %d", short(got), err)
		}
	}
}

// P10.1: what something is applied to is equated as a function of that, to a hole.
func TestGreatApplied(t *testing.T) {
	for _, x := range [][2]api.Type{{parts(1998), parts(1999)}, {levels(59), levels(60)}, {broad(1997, h(0)), broad(1998, h(0))}, {chain(58, h(0)), chain(59, h(0))}} {
		fits, not := []api.Assume{forAll("b", x[0])}, []api.Assume{forAll("b", x[1])}
		checkLimit(t, `(\x -> 1) b`, "Int", fits, not)
		checkLimit(t, `any b`, "a", fits, not)
		checkLimit(t, `any b + 1`, "Int", fits, not)
		checkLimit(t, `let u = any b in 1`, "Int", fits, not)
		checkLimit(t, `let u = (\x -> x) b in 1`, "Int", fits, not)
		checkLimit(t, `case One b of { One x -> 1 }`, "Int", without(fits, x[0]), not)
	}
}

// without is of a type a part, or a level, less where the type of a constructor's application needs one more.
func without(l []api.Assume, t api.Type) []api.Assume {
	if len(t.Args) == 1 {
		return []api.Assume{forAll("b", t.Args[0])}
	}
	return []api.Assume{forAll("b", broad(500, t.Args[0]))}
}

// pairs are two types, whose pair is as great as may be, and two of which it is one part, or one level, more.
func pairs() [][2][]api.Assume {
	var l [][2][]api.Assume
	for _, x := range [][4]api.Type{{parts(1000), parts(999), parts(1000), parts(1000)}, {parts(1), parts(1998), parts(1), parts(1999)}, {parts(1990), parts(9), parts(1990), parts(10)}, {c("Int"), levels(59), c("Int"), levels(60)}, {levels(30), levels(59), levels(30), levels(60)}} {
		l = append(l, [2][]api.Assume{{forAll("b", x[0]), forAll("d", x[1])}, {forAll("b", x[2]), forAll("d", x[3])}})
	}
	return l
}

// P10.1: a name that is told, and what was assumed ahead of a let, may have come to be one that may not be; nobody asks for that else.
func TestGreatNames(t *testing.T) {
	both := one("fst x", "b") + " + " + one("snd x", "d")
	within := func(src string) string { return "(case r of { E x -> " + src + " })" }
	for _, x := range pairs() {
		checkFree(t, within(both), "Int", x[0], x[1])
		checkFree(t, within("(let u = 1 in u) + "+both), "Int", x[0], x[1])
		checkLimit(t, within("let u = "+both+" in 1"), "Int", x[0], x[1])
		checkLimit(t, within(both+" + (let u = 1 in 2)"), "Int", x[0], x[1])
		checkLimit(t, within(both+" + "+one("x", "x")), "Int", x[0], x[1])
		checkLimit(t, within(both+" + (case x of { H -> 1 })"), "Int", x[0], x[1])
		checkFree(t, within(one("x", "x")+" + "+both), "Int", x[0], x[1])
		checkLimit(t, within("k ("+both+") (case x of { H -> 1 })"), "Int", x[0], x[1])
		checkFree(t, within("k (case x of { H -> 1 }) ("+both+")"), "Int", x[0], x[1])
		checkLimit(t, within("case ("+both+") of { H -> case x of { H -> 1 } }"), "Int", x[0], x[1])
		checkLimit(t, within("case True of { True -> "+both+" ; False -> case x of { H -> 1 } }"), "Int", x[0], x[1])
		checkFree(t, within("case True of { True -> case x of { H -> 1 } ; False -> "+both+" }"), "Int", x[0], x[1])
		// One that stands behind another one of its name is assumed still.
		checkLimit(t, within(both+` + ((\x -> let u = 1 in 2) 1)`), "Int", x[0], x[1])
		checkFree(t, within(both+` + ((\x -> x) 1)`), "Int", x[0], x[1])
		checkFree(t, within(both)+" + (let u = 1 in 2)", "Int", x[0], x[1])
		// What a let's name is, too, if it is not for all holes.
		checkFree(t, within("let y = C x in "+both), "Int", x[0], x[1])
	}
	small, fits, not := forAll("b", parts(499)), forAll("d", parts(499)), forAll("d", parts(500))
	checkLimit(t, within("let y = P x x in "+both+" + (let u = 1 in 2)"), "Int", []api.Assume{small, fits}, []api.Assume{small, not})
	checkFree(t, within("let y = P x x in "+both), "Int", []api.Assume{small, fits}, []api.Assume{small, not})
	checkFree(t, within("(let y = P x x in "+both+") + (let u = 1 in 2)"), "Int", []api.Assume{small, fits}, []api.Assume{small, not})
}

// P10.1: what a case is of is equated with each of its ways, with all that the ways ahead told.
func TestGreatCases(t *testing.T) {
	both := one("p", "b") + " + " + one("q", "d")
	for _, x := range pairs() {
		checkFree(t, "case s of { D p q -> "+both+" }", "Int", x[0], x[1])
		checkFree(t, "case s of { O -> 1 ; D p q -> "+both+" }", "Int", x[0], x[1])
		checkLimit(t, "case s of { D p q -> "+both+" ; O -> 1 }", "Int", x[0], x[1])
		checkLimit(t, "case s of { D p q -> "+both+" ; H -> 1 }", "Int", x[0], x[1])
		checkLimit(t, "case s of { D p q -> case (case True of { True -> P p q ; False -> case "+both+" of { H -> any } }) of { H -> 1 } }", "Int", x[0], x[1])
	}
}

// P10.1: what was equated may come to be one that may not be, though all that became known may be; it is one that may not be when it is told, or closed.
func TestGreatTogether(t *testing.T) {
	rows := [][3]api.Type{
		{c("Q", h(0), h(0), h(1), h(2)), c("Q", h(0), parts(500), parts(998), c("Int")), c("Q", h(0), parts(500), parts(999), c("Int"))},
		{c("Q", h(0), h(0), parts(999)), c("Q", h(0), parts(500), h(1)), c("Q", h(0), parts(501), h(1))},
		{c("Q", chain(30, h(0)), h(0), h(1)), c("Q", chain(30, h(0)), levels(29), h(1)), c("Q", chain(30, h(0)), levels(30), h(1))},
	}
	for _, x := range rows {
		fits, not := []api.Assume{forAll("m", x[0]), forAll("n", x[1])}, []api.Assume{forAll("m", x[0]), forAll("n", x[2])}
		checkLimit(t, one("m", "n"), "Int", fits, not)
		checkLimit(t, one("n", "m"), "Int", fits, not)
		checkType(t, greatest(not...), "case True of { True -> m ; False -> n }", "")
		checkType(t, greatest(not...), "let u = 1 in case True of { True -> n ; False -> m }", "")
		checkLimit(t, "let f = (case (case True of { True -> f ; False -> m }) of { H -> n }) in 1", "Int", fits, not)
		checkLimit(t, "let f = (case (case True of { True -> n ; False -> f }) of { H -> m }) in 1", "Int", fits, not)
	}
}

// P10.1: what becomes known of a hole may be one that may not be: then two can't be equated.
func TestGreatFacts(t *testing.T) {
	rows := [][3]api.Type{
		{c("Q", h(0), chain(30, h(0))), c("Q", chain(29, h(0)), h(1)), c("Q", chain(30, h(0)), h(1))},
		{c("Q", h(0), c("Q", h(0), h(0))), c("Q", parts(999), h(1)), c("Q", parts(1000), h(1))},
		{c("Q", h(0), c("Q", h(0), parts(998))), c("Q", parts(1001), h(1)), c("Q", parts(1002), h(1))},
	}
	for _, x := range rows {
		fits, not := []api.Assume{forAll("f", fn(x[0], c("Int"))), forAll("x", x[1])}, []api.Assume{forAll("f", fn(x[0], c("Int"))), forAll("x", x[2])}
		checkLimit(t, "f x", "Int", fits, not)
		checkLimit(t, "let y = f x in True", "Bool", fits, not)
	}
}

// P10.1: types that double, up to one of more parts than may be.
func TestDoubled(t *testing.T) {
	is := "a"
	for n := range 12 {
		want := "a -> " + is
		if 2+2<<n-1 > 2000 {
			want = ""
		}
		checkType(t, usual(), `let d = \x -> P x x in \x -> `+strings.Repeat("d (", n)+"x"+strings.Repeat(")", n), want)
		is = "(P " + is + " " + is + ")"
	}
	src := "let a = \\x -> P x x in let b = \\x -> a (a x) in let c = \\x -> b (b x) in "
	checkType(t, usual(), src+"let e = \\x -> c (b (a x)) in 1", "Int")
	checkType(t, usual(), src+"let e = \\x -> c (c x) in 1", "Int")
	checkType(t, usual(), src+"let e = \\x -> c (c (a x)) in 1", "Int")
	checkType(t, usual(), src+"let e = \\x -> c (c (b x)) in 1", "")
	checkType(t, usual(), `let f = \x -> let g = P x x in let h = P g g in let i = P h h in let j = P i i in let l = P j j in let m = P l l in let n = P m m in let o = P n n in let p = P o o in o in 1`, "Int")
	checkType(t, usual(), `let f = \x -> let g = P x x in let h = P g g in let i = P h h in let j = P i i in let l = P j j in let m = P l l in let n = P m m in let o = P n n in let p = P o o in let q = P p p in q in 1`, "")
}
