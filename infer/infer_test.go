package infer

import (
	"fmt"
	"slices"
	"strings"
	"testing"

	"dawdler/api"
	"dawdler/lex"
	"dawdler/parse"
	"dawdler/scheme"
	"dawdler/sugar"
	"dawdler/ty"
)

// h is a hole, c a type with a Name, fn a function.
func h(n int) api.Type                   { return api.Type{N: n} }
func c(s string, l ...api.Type) api.Type { return api.Type{Name: s, Args: l} }
func fn(a, b api.Type) api.Type          { return c("->", a, b) }

// chain is a type of one part a level, so many levels above another one; broad one of so many parts and it, all but it next to each other.
func chain(levels int, t api.Type) api.Type {
	for range levels {
		t = c("T", t)
	}
	return t
}
func broad(parts int, t api.Type) api.Type { return c("B", slices.Repeat([]api.Type{t}, parts)...) }

// reader reads texts of types.
type reader struct{ left string }

func (r *reader) take(s string) bool {
	left, ok := strings.CutPrefix(r.left, s)
	if ok {
		r.left = left
	}
	return ok
}

func (r *reader) atom() api.Type {
	if r.take("(") {
		t := r.whole()
		if !r.take(")") {
			panic("no ) at " + r.left)
		}
		return t
	}
	end := strings.IndexAny(r.left+" ", " ()")
	word := r.left[:end]
	r.left = r.left[end:]
	if len(word) == 1 && word >= "a" && word <= "z" {
		return h(int(word[0] - 'a'))
	}
	return c(word)
}

func (r *reader) whole() api.Type {
	ahead := r.atom()
	if r.take(" -> ") {
		return fn(ahead, r.whole())
	}
	for strings.HasPrefix(r.left, " ") && !strings.HasPrefix(r.left, " -> ") && r.take(" ") {
		ahead.Args = append(ahead.Args, r.atom())
	}
	if r.take(" -> ") {
		return fn(ahead, r.whole())
	}
	return ahead
}

func typed(s string) api.Type {
	r := reader{s}
	t := r.whole()
	if r.left != "" {
		panic("left: " + r.left)
	}
	return t
}

// forAll is an assumption of a name to be a type, for all its holes.
func forAll(name string, t api.Type) api.Assume {
	return api.Assume{Name: name, Is: api.Scheme{All: ty.Holes(t), Ty: t}}
}

// is are assumptions of pairs of a name and a type's text.
func is(l ...string) []api.Assume {
	var env []api.Assume
	for i := 0; i < len(l); i += 2 {
		env = append(env, forAll(l[i], typed(l[i+1])))
	}
	return env
}

// made are the constructors of Datas that are told as a text.
func made(src string) []api.Assume {
	p, _, err := parse.Text([]byte(src))
	if err != api.OK {
		panic(src)
	}
	l, err := scheme.Of(p.Datas)
	if err != api.OK {
		panic(src)
	}
	return l
}

// usual is what most tests assume.
func usual() []api.Assume {
	return slices.Concat(
		is("True", "Bool", "False", "Bool", "Unit", "Unit"),
		made("data L a = N | C a (L a)\ndata P a b = P a b\ndata One a = One a\ndata F a b = F (a -> b)\ndata Fix f = Fix (f -> f) | None\n"),
		is("fst", "(P a b) -> a", "snd", "(P a b) -> b", "k", "a -> b -> a", "same", "a -> a -> Int", "not", "Bool -> Bool", "any", "a", "fix", "(a -> a) -> a"),
	)
}

// bare is the bare tree of a text.
func bare(src string) api.Expr {
	l, _, err := lex.Lex([]byte(src))
	if err != api.OK {
		panic(src)
	}
	e, _, err := parse.Expr(l)
	if err != api.OK {
		panic(src)
	}
	e, err = sugar.Core(e)
	if err != api.OK {
		panic(src)
	}
	return e
}

// alike tells whether two types are the same; an empty list is as good as none.
func alike(a, b api.Type) bool {
	return a.Name == b.Name && a.N == b.N && slices.EqualFunc(a.Args, b.Args, alike)
}

// short is a type's text, cut off, for reports.
func short(t api.Type) string {
	s := ty.Text(t)
	return s[:min(len(s), 300)]
}

// checkType asks for a tree's type; of the text "" that it has none.
func checkType(t *testing.T, env []api.Assume, src, want string) {
	t.Helper()
	got, err := Type(env, bare(src))
	switch {
	case want == "" && (err != api.ErrType || !alike(got, api.Type{}) || len(got.Args) != 0):
		t.Errorf("%s has no type: %s, %d", src, short(got), err)
	case want != "" && (err != api.OK || !alike(got, typed(want))):
		t.Errorf("%s: %s, %d; want %s", src, short(got), err, want)
	}
}

// checkTypes asks it of pairs of texts.
func checkTypes(t *testing.T, env []api.Assume, l ...string) {
	t.Helper()
	for i := 0; i < len(l); i += 2 {
		checkType(t, env, l[i], l[i+1])
	}
}

// checkWrong asks for an error, and for nothing beside it.
func checkWrong(t *testing.T, env []api.Assume, e api.Expr, want api.Errno) {
	t.Helper()
	got, err := Type(env, e)
	if err != want || got.Name != "" || got.N != 0 || len(got.Args) != 0 {
		t.Errorf("%s: %s, %d; want %d", shortTree(e), short(got), err, want)
	}
}

func shortTree(e api.Expr) string {
	if !sound(e) {
		return fmt.Sprintf("a tree of the Kind %d", e.Kind)
	}
	s := fmt.Sprintf("%v", e)
	return s[:min(len(s), 300)]
}

// sound tells whether a tree is small enough to be told.
func sound(e api.Expr) bool {
	left := 1000
	var down func(e api.Expr) bool
	down = func(e api.Expr) bool {
		left--
		return left > 0 && !slices.ContainsFunc(e.Kids, func(kid api.Expr) bool { return !down(kid) })
	}
	return down(e)
}

// P10.1: the chapter's example.
func TestExample(t *testing.T) {
	checkType(t, nil, `\x -> \y -> x`, "a -> b -> a")
}

// P10.1: numbers, names and constructors.
func TestLeaves(t *testing.T) {
	checkTypes(t, usual(), "0", "Int", "9223372036854775807", "Int", "any", "a", "k", "a -> b -> a", "fst", "(P a b) -> a", "not", "Bool -> Bool", "N", "L a", "C", "a -> (L a) -> (L a)", "P", "a -> b -> (P a b)", "True", "Bool", "Fix", "(a -> a) -> (Fix a)", "None", "Fix a")
}

// P10.1: functions, whose names are one thing each.
func TestFunctions(t *testing.T) {
	checkTypes(t, usual(), `\x -> x`, "a -> a", `\x -> 1`, "a -> Int", `\x -> \y -> y`, "a -> b -> b", `\f -> \x -> f x`, "(a -> b) -> a -> b", `\f -> \x -> f (f x)`, "(a -> a) -> a -> a",
		`\f -> \g -> \x -> f x (g x)`, "(a -> b -> c) -> (a -> b) -> a -> c", `\x -> \y -> \z -> x z`, "(a -> b) -> c -> a -> b", `\x -> not x`, "Bool -> Bool", `\x -> same x True`, "Bool -> Int", `\x -> k x (same x 1)`, "Int -> Int", `\x -> k x (not x)`, "Bool -> Bool",
		`\x -> x x`, "", `\f -> k (f 1) (f True)`, "", `\f -> same (f 1) (f 2)`, "(Int -> a) -> Int", `\x -> \y -> k (same x y) (same y 1)`, "Int -> Int -> Int", `\f -> \x -> x (f x) f`, "", `(\i -> i i) (\x -> x)`, "")
}

// P10.1: a name that is bound again within itself is what it was bound to be last, and what it was behind that.
func TestBoundAgain(t *testing.T) {
	checkTypes(t, usual(), `\x -> \x -> x`, "a -> b -> b", `\x -> k (\x -> not x) (x + 1)`, "Int -> Bool -> Bool", `\x -> P ((\x -> not x) True) x`, "a -> (P Bool a)", `\x -> P x ((\x -> x + 1) 1)`, "a -> (P a Int)", `\x -> k x (\x -> x)`, "a -> a",
		`\x -> let x = True in x`, "a -> Bool", `\x -> k (x + 1) (let x = True in x)`, "Int -> Int", `\x -> case x of { C x y -> x ; N -> 1 }`, "(L Int) -> Int", `\x -> case x of { C h x -> x ; N -> x }`, "(L a) -> (L a)", `\x -> case x of { P x y -> P y x }`, "(P a b) -> (P b a)",
		`let x = 1 in let x = True in x`, "Bool", `let x = 1 in P (let x = True in x) x`, "P Bool Int", `let k = 1 in k + 1`, "Int", `\fst -> fst + 1`, "Int -> Int", `let x = \x -> x in x`, "a -> a", `let x = \x -> x in x x`, "a -> a",
		`k (\k -> k + 1) 1`, "Int -> Int", `\x -> P (P (\x -> not x) x) (\x -> x + 1)`, "a -> (P (P (Bool -> Bool) a) (Int -> Int))")
}

// P10.1: applied ones.
func TestApplied(t *testing.T) {
	checkTypes(t, usual(), "not True", "Bool", "k 1", "a -> Int", "k 1 True", "Int", "C 1", "(L Int) -> (L Int)", "C 1 N", "L Int", "C N N", "L (L a)", "C any any", "L a", "P 1 True", "P Int Bool", "fst (P 1 True)", "Int", "snd (P 1 True)", "Bool", "any 1", "a", "any any", "a", "any 1 True any", "a", "One any", "One a",
		"fix not", "Bool", "fix k", "", `fix (\f -> \x -> f x)`, "a -> b", "k k", "a -> b -> c -> b", "k k 1", "a -> b -> a", `C (\x -> x) (C not N)`, "L (Bool -> Bool)", `C (\x -> x)`, "(L (a -> a)) -> (L (a -> a))", "C k", "(L (a -> b -> a)) -> (L (a -> b -> a))", `F (\x -> 1)`, "F a Int", `Fix (\x -> x + 1)`, "Fix Int",
		"1 1", "", "not 1", "", "True True", "", "C 1 True", "", "C 1 (C True N)", "", "C 1 1", "", "C 1 N N", "", "fst 1", "", "same 1 True", "", "N 1", "", `same (\x -> x) 1`, "", `same k (\x -> \y -> y)`, "Int")
}

// P10.1: operations and comparisons are of numbers.
func TestOperations(t *testing.T) {
	for _, op := range []string{"+", "-", "*", "/"} {
		checkTypes(t, usual(), "1 "+op+" 2", "Int", `\x -> \y -> x `+op+" y", "Int -> Int -> Int", "any "+op+" any", "Int")
	}
	for _, op := range []string{"==", "<"} {
		checkTypes(t, usual(), "1 "+op+" 2", "Bool", `\x -> \y -> x `+op+" y", "Int -> Int -> Bool", "any "+op+" any", "Bool")
	}
	for _, op := range []string{"+", "-", "*", "/", "==", "<"} {
		for _, other := range []string{"True", "N", "not", `(\x -> x)`, "(1 == 1)", "k", "(P 1 1)", "Unit"} {
			checkTypes(t, usual(), "1 "+op+" "+other, "", other+" "+op+" 1", "", other+" "+op+" "+other, "")
		}
	}
	checkTypes(t, usual(), "1 + 2 < 3", "Bool", `\x -> x + 1 == x`, "Int -> Bool", `\x -> \y -> \z -> x * y - z`, "Int -> Int -> Int -> Int", "not (1 == 2)", "Bool")
}

// P10.1: a let's name is one thing in its first Kid, and for all holes in its second one.
func TestLets(t *testing.T) {
	checkTypes(t, usual(), `let i = \x -> x in i i`, "a -> a", `let i = \x -> x in P (i 1) (i True)`, "P Int Bool", `let f = \x -> f x in f`, "a -> b", `let f = \x -> f x in P (not (f 1)) (f True + 1)`, "P Bool Int", `let x = x in x`, "a", `let x = x in P (not x) (x + 1)`, "P Bool Int",
		`let f = \x -> k x (f x) in f`, "a -> a", `let f = \x -> k x (f 1) in f`, "Int -> Int", `let f = \x -> k x (f 1) in f True`, "", `let f = \x -> k (k x (f 1)) (f True) in f`, "", `let f = f 1 in f`, "", `let f = \x -> f in f`, "", `let x = k x in x`, "",
		`let n = N in P (C 1 n) (C True n)`, "P (L Int) (L Bool)", `let n = N in n`, "L a", "let x = any in P (x + 1) (not x)", "P Int Bool", "let x = 1 in x + 1", "Int", "let x = 1 in not x", "", "let x = 1 + True in 1", "", "let x = True in 1", "Int", "let x = 1 in True + 1", "",
		`let m = \f -> \l -> case l of { N -> N ; C h t -> C (f h) (m f t) } in m`, "(a -> b) -> (L a) -> (L b)", `let m = \f -> \l -> case l of { N -> N ; C h t -> C (f h) (m f t) } in P (m not) (m fst)`, "P ((L Bool) -> (L Bool)) ((L (P a b)) -> (L a))",
		`let f = (let g = \x -> f x in g) in f`, "a -> b", `let f = \x -> let g = \y -> f y in g x in f`, "a -> b", `let f = \x -> let g = \y -> P x y in P (g 1) (g True) in f`, "a -> (P (P a Int) (P a Bool))")
}

// P10.1: within its first Kid a let's name has a hole that closes nothing that is bound there.
func TestLetInLet(t *testing.T) {
	checkTypes(t, usual(), `let f = let g = f in P (same g 1) (same g True) in f`, "", `let f = \x -> let g = f in k (g 1) (g True) in f`, "", `let f = \x -> let g = \y -> f x in k (g 1) (g True) in f`, "a -> b", `let f = let g = \y -> f in k 1 (P (g 1) (g True)) in f`, "Int", `let a = let b = a in k b (same b a) in P (a + 1) (not a)`, "P Int Bool")
}

// P10.1: holes of what was assumed ahead of a let are not closed in it, also if what was assumed has them by what became known later.
func TestNotClosed(t *testing.T) {
	checkTypes(t, usual(), `\y -> let f = \x -> y in f`, "a -> b -> a", `\y -> let f = \x -> y in P (f 1) (f True)`, "a -> (P a a)", `\y -> let f = y in f f`, "", `\y -> let f = y in P (f 1) (f 2)`, "(Int -> a) -> (P a a)", `\y -> let f = y in P (f 1) (f True)`, "", `\y -> let f = k y in P (f 1) (f True)`, "a -> (P a a)",
		`\y -> let p = P y in P (p 1) (p True)`, "a -> (P (P a Int) (P a Bool))", `\y -> let p = \x -> P x y in P (p 1) (p y)`, "a -> (P (P Int a) (P a a))", `\y -> let f = \x -> same x y in P (f 1) (f True)`, "", `\y -> let f = \x -> same x y in f 1`, "Int -> Int",
		`\y -> \z -> k (let f = \x -> z x in P (f 1) (f 2)) (same y z)`, "(Int -> a) -> (Int -> a) -> (P a a)", `\y -> \z -> k (let f = z in P (f 1) (f True)) (same y z)`, "", `\y -> \z -> same (same y (C z N)) (let f = y in P (C 1 f) (C True f))`, "",
		`\y -> \z -> k (let f = \u -> case y of { C a b -> z a ; N -> u } in P (f 1) (f 2)) (same y z)`, "", `\y -> case y of { C a b -> let f = a in P (f 1) (f True) ; N -> any }`, "", `\y -> case y of { C a b -> let f = N in P (C 1 f) (C True f) ; N -> any }`, "(L a) -> (P (L Int) (L Bool))",
		`\y -> k (let f = \x -> y in P (f 1) (f True)) (same y 1)`, "Int -> (P Int Int)", `\y -> let f = y in k (same f 1) f`, "Int -> Int", `\x -> let g = x in \x -> let f = P g x in P (fst f + 1) (snd f)`, "Int -> a -> (P Int a)", `\x -> let g = x in \x -> let f = g in P (f + 1) (not f)`, "",
		`\y -> let p = \x -> P x y in let q = \x -> p (p x) in q`, "a -> b -> (P (P b a) a)", `\y -> k (\z -> let f = z in P f f) (same y 1)`, "Int -> a -> (P a a)")
}

// P10.1: a name of which more becomes known later has that in all that was told of it.
func TestKnownLater(t *testing.T) {
	checkTypes(t, usual(), `\x -> \y -> \z -> P (P x y) (same (P x y) (P y z))`, "a -> a -> a -> (P (P a a) Int)", `\x -> \y -> \z -> k (P x (P y z)) (same (P x y) (P y (z + 1)))`, "Int -> Int -> Int -> (P Int (P Int Int))", `\f -> \x -> k (f x) (k (same x 1) (not (f any)))`, "(Int -> Bool) -> Int -> Bool",
		`\x -> let f = \y -> P x y in k (P (f 1) (f True)) (same x N)`, "(L a) -> (P (P (L a) Int) (P (L a) Bool))", `\x -> let f = \y -> P x y in k (f 1) (same x (f 1))`, "", `\x -> \y -> k (same x (C y N)) (same x y)`, "", `\x -> \y -> k (same x (C y N)) (same y (One x))`, "", `\x -> \y -> \z -> k (same x (P y y)) (k (same y (P z z)) (same z x))`, "",
		`\a -> \b -> \c -> \d -> k (P (P a b) (P c d)) (k (k (same a b) (same c d)) (same b d))`, "a -> a -> a -> a -> (P (P a a) (P a a))", `\f -> k (case f 1 of { C x y -> x ; N -> f }) (\z -> z)`, "", `\x -> k (k x (same x (C any N))) (same x (C 1 N))`, "(L Int) -> (L Int)")
}

// P10.1: a case's ways, each of a constructor, and of its Names; all Kids are equated.
func TestCases(t *testing.T) {
	checkTypes(t, usual(), `\l -> case l of { N -> 0 ; C h t -> h }`, "(L Int) -> Int", `\l -> case l of { C h t -> h ; N -> 0 }`, "(L Int) -> Int", `\l -> case l of { C h t -> t }`, "(L a) -> (L a)", `\l -> case l of { N -> 0 }`, "(L a) -> Int", `\l -> case l of { N -> 0 ; N -> 1 ; N -> 2 }`, "(L a) -> Int", `\l -> case l of { C h t -> h ; C a b -> a }`, "(L a) -> a",
		`\p -> case p of { P a b -> P b a }`, "(P a b) -> (P b a)", `\p -> case p of { P a b -> a b }`, "(P (a -> b) a) -> b", `\p -> case p of { P a b -> P (a + 1) (not b) }`, "(P Int Bool) -> (P Int Bool)", `\o -> case o of { One x -> x }`, "(One a) -> a", `\f -> case f of { F g -> g 1 }`, "(F Int a) -> a", `\f -> case f of { Fix g -> g ; None -> not }`, "(Fix Bool) -> Bool -> Bool",
		`\b -> case b of { True -> 1 ; False -> 2 }`, "Bool -> Int", `case True of { True -> 1 }`, "Int", `case Unit of { Unit -> N }`, "L a", `case C 1 N of { N -> True ; C h t -> h == 1 }`, "Bool", `case any of { N -> 1 ; C h t -> h + 1 }`, "Int", `case N of { N -> any ; C h t -> h }`, "a", `case any of { C h t -> P h t ; N -> any }`, "P a (L a)",
		`case 1 of { N -> 1 }`, "", `case C True N of { C h t -> h + 1 }`, "", `\l -> case l of { N -> 0 ; True -> 1 }`, "", `\l -> case l of { N -> 0 ; P a b -> 1 }`, "", `\l -> case l of { N -> 0 ; C h t -> True }`, "", `\l -> case l of { C h t -> h ; N -> k }`, "(L (a -> b -> a)) -> a -> b -> a", `\l -> case l of { C h t -> t ; N -> l ; C a b -> C 1 b }`, "(L Int) -> (L Int)", `\x -> case x of { One y -> x y }`, "",
		`\x -> case x of { One y -> One x ; One z -> z }`, "", `\x -> \y -> case x of { True -> y ; False -> y + 1 }`, "Bool -> Int -> Int", `\x -> \y -> \z -> case x of { True -> y ; False -> z }`, "Bool -> a -> a -> a", `\x -> \y -> \z -> case x of { True -> y ; False -> z ; True -> 1 }`, "Bool -> Int -> Int -> Int")
}

// P10.1: a constructor is a function of just as many as there are Names.
func TestNamesOfConstructors(t *testing.T) {
	env := slices.Concat(usual(), is("Z", "R", "Y", "a -> R", "X", "a -> b -> R", "W", "a -> b -> c -> R", "G", "a -> ((b -> c) -> R)"))
	names := []string{"", " a", " a b", " a b c", " a b c d"}
	for many, con := range []string{"Z", "Y", "X", "W"} {
		for at, l := range names {
			want := ""
			if at == many {
				want = "R -> Int"
			}
			checkType(t, env, `\r -> case r of { `+con+l+" -> 1 }", want)
		}
	}
	checkTypes(t, env, `\r -> case r of { G a f -> f }`, "R -> a -> b", `\r -> case r of { G a f -> 1 }`, "R -> Int", `\r -> case r of { G a f -> same f not }`, "R -> Int", `\r -> case r of { G a -> 1 }`, "", `\r -> case r of { G a b c -> 1 }`, "", `\l -> case l of { N x -> 0 }`, "", `\l -> case l of { C h -> 0 }`, "", `\l -> case l of { C -> 0 }`, "", `\l -> case l of { C a b c -> 0 }`, "", `\l -> case l of { N -> 0 ; C h -> 0 }`, "", `\b -> case b of { True x -> x }`, "")
}
