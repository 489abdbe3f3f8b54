package code

import (
	"slices"
	"strconv"
	"testing"
	"time"

	"dawdler/api"
)

func v(name string) api.Expr { return api.Expr{Kind: api.EVar, Name: name} }

func number(n int) api.Expr { return api.Expr{Kind: api.EInt, Num: n} }

func of(kind int, kids ...api.Expr) api.Expr { return api.Expr{Kind: kind, Kids: kids} }

func plus(a, b api.Expr) api.Expr {
	return api.Expr{Kind: api.EOp, Name: "+", Kids: []api.Expr{a, b}}
}

func lam(name string, e api.Expr) api.Expr {
	return api.Expr{Kind: api.ELam, Names: []string{name}, Kids: []api.Expr{e}}
}

func let(name string, is, in api.Expr) api.Expr {
	return api.Expr{Kind: api.ELet, Names: []string{name}, Kids: []api.Expr{is, in}}
}

func con(name string, l ...api.Expr) api.Expr {
	return call(api.Expr{Kind: api.ECon, Name: name}, l...)
}

func call(e api.Expr, l ...api.Expr) api.Expr {
	for _, arg := range l {
		e = of(api.EApp, e, arg)
	}
	return e
}

func alt(name string, e api.Expr, names ...string) api.Expr {
	return api.Expr{Kind: api.EAlt, Name: name, Names: names, Kids: []api.Expr{e}}
}

// deep is a number that is added up, one below the other, of so many levels.
func deep(levels int) api.Expr {
	e := number(1)
	for range levels - 1 {
		e = plus(number(1), e)
	}
	return e
}

// sum adds up so many of a tree, half and half.
func sum(e api.Expr, many int) api.Expr {
	if many == 1 {
		return e
	}
	return plus(sum(e, many/2), sum(e, many-many/2))
}

func def(name string, body api.Expr) api.Def { return api.Def{Name: name, Body: body} }

func mainDef() api.Def { return def("main", call(v("print"), number(1))) }

// withMain is a program of Defs, and a main behind them.
func withMain(l ...api.Def) api.Prog { return api.Prog{Defs: append(l, mainDef())} }

// checkDef asks for the operations of one Def, whose text it is, ahead of those of a main.
func checkDef(t *testing.T, src string, want ...string) {
	t.Helper()
	n := len(want)
	at, arg := strconv.Itoa(n), strconv.Itoa(n+1)
	data := "data L a = N | C a (L a)\ndata T a b c = T a b c\n"
	checkCode(t, prog(data+src+"\nmain = print 1"), []int{n - 1, n + 2},
		append(want, "con print 1", "int 1", "app ("+at+" "+arg+")")...)
}

// P12.2: a name stands for the last one that is it.
func TestLastOne(t *testing.T) {
	checkDef(t, "f x x = x", "local", "lam (0)", "lam (1)")
	checkDef(t, "f x = (\\x -> x + 1) x", "local", "int 1", "prim + (0 1)", "lam (2)", "local", "app (3 4)", "lam (5)")
	checkDef(t, "f x l = case l of\n  N -> x\n  C x t -> x", "local 1", "local", "local 2", "case (0) | N 0 -> 1 | C 2 -> 2", "lam (3) [0]", "lam (4)")
	checkDef(t, "f x l = case l of\n  N -> x\n  C x t -> (\\y -> y + x) x",
		"local 1", "local", "local 1", "local", "prim + (2 3)", "lam (4) [2]", "local 2", "app (5 6)", "case (0) | N 0 -> 1 | C 2 -> 7", "lam (8) [0]", "lam (9)")
	checkDef(t, "f x = case x of\n  C y x -> case x of\n    C y x -> y", "local", "local 2", "local 3", "case (1) | C 2 -> 2", "case (0) | C 2 -> 3", "lam (4)")
	checkDef(t, "f x = let y = x in let y = y + x in y",
		"local", "delay (0) [0]", "local 1", "local", "prim + (2 3)", "delay (4) [0 2]", "local 2", "let (5 6)", "let (1 7)", "lam (8)")
}

// P12.2: the names of one of a case's ways stand in no other one, nor behind the case.
func TestWaysApart(t *testing.T) {
	checkDef(t, "f x p = (case p of\n  T a b c -> a + b\n  T d e x -> d + e + x\n  T x y z -> x + y) + x",
		"local 1",
		"local 2", "local 3", "prim + (1 2)",
		"local 2", "local 3", "prim + (4 5)", "local 4", "prim + (6 7)",
		"local 2", "local 3", "prim + (9 10)",
		"case (0) | T 3 -> 3 | T 3 -> 8 | T 3 -> 11", "local", "prim + (12 13)", "lam (14) [0]", "lam (15)")
	checkDef(t, "f k l = case l of\n  C a t -> k a (case t of\n    C b u -> k b 1\n    N -> 2)",
		"local 1", "local", "local 2", "app (1 2)",
		"local 1", "local", "local 2", "app (5 6)", "int 1", "app (7 8)", "int 2", "case (4) | C 2 -> 9 | N 0 -> 10", "delay (11) [0 3]",
		"app (3 12)", "case (0) | C 2 -> 13", "lam (14) [0]", "lam (15)")
}

// P12.2: what is taken along are places, rising, whatever the names' order in the tree, and each once.
func TestTakenAlong(t *testing.T) {
	checkDef(t, "f a b c = \\z -> c + a + c + z",
		"local 1", "local", "prim + (0 1)", "local 1", "prim + (2 3)", "local 2", "prim + (4 5)", "lam (6) [0 1]", "lam (7) [0]", "lam (8) [0]", "lam (9)")
	checkDef(t, "f a b c = (\\z -> c + a) (b + c + a)",
		"local 1", "local", "prim + (0 1)", "lam (2) [0 2]",
		"local 1", "local 2", "prim + (4 5)", "local", "prim + (6 7)", "delay (8) [0 1 2]",
		"app (3 9)", "lam (10) [0 1]", "lam (11) [0]", "lam (12)")
	checkDef(t, "f a b = \\z -> \\y -> 1", "int 1", "lam (0)", "lam (1)", "lam (2)", "lam (3)")
	checkDef(t, "f a b = \\a -> \\z -> a + b", "local 1", "local", "prim + (0 1)", "lam (2) [0 1]", "lam (3) [0]", "lam (4)", "lam (5)")
	checkDef(t, "f a b = \\b -> \\a -> \\z -> a + b", "local 1", "local", "prim + (0 1)", "lam (2) [0 1]", "lam (3) [0]", "lam (4)", "lam (5)", "lam (6)")
	checkDef(t, "f a b a c = \\z -> c + b + a",
		"local 2", "local", "prim + (0 1)", "local 1", "prim + (2 3)", "lam (4) [0 1 2]", "lam (5) [0 1]", "lam (6) [0]", "lam (7)", "lam (8)")
	checkDef(t, "f a l = case l of\n  C b a -> \\z -> T a b z",
		"local", "con T 3", "local 1", "app (1 2)", "local", "app (3 4)", "local 2", "app (5 6)", "lam (7) [1 2]", "case (0) | C 2 -> 8", "lam (9)", "lam (10)")
}

// P12.2: a let's name stands in what it is, too, which is always done when it is needed, whatever it is.
func TestLet(t *testing.T) {
	checkDef(t, "f = let x = x in x", "local", "delay (0) [0]", "local", "let (1 2)")
	checkDef(t, "f x = let x = x in x", "local", "delay (0) [1]", "local 1", "let (1 2)", "lam (3)")
	checkDef(t, "f x = let y = x in y", "local", "delay (0) [0]", "local 1", "let (1 2)", "lam (3)")
	checkDef(t, "f x = let y = 1 in x", "int 1", "delay (0)", "local", "let (1 2)", "lam (3)")
	checkDef(t, "f x = let y = C in x", "con C 2", "delay (0)", "local", "let (1 2)", "lam (3)")
	checkDef(t, "f x = let y = \\z -> y x in x", "local 1", "local", "app (0 1)", "lam (2) [0 1]", "delay (3) [0 1]", "local", "let (4 5)", "lam (6)")
	checkDef(t, "f x = let l = C x l in l",
		"con C 2", "local", "app (0 1)", "local 1", "app (2 3)", "delay (4) [0 1]", "local 1", "let (5 6)", "lam (7)")
	checkDef(t, "f x = let y = (let z = y in z) + x in y",
		"local", "delay (0) [1]", "local 2", "let (1 2)", "local", "prim + (3 4)", "delay (5) [0 1]", "local 1", "let (6 7)", "lam (8)")
}

// P12.2: what is bound hides Defs and what is given, below alone.
func TestHidden(t *testing.T) {
	checkDef(t, "print1 print = print", "local", "lam (0)")
	checkDef(t, "f f = f", "local", "lam (0)")
	checkDef(t, "f x = let f = x in f", "local", "delay (0) [0]", "local 1", "let (1 2)", "lam (3)")
	checkDef(t, "f x = (\\retry -> retry) retry", "local", "lam (0)", "con retry", "app (1 2)", "lam (3)")
	checkDef(t, "f bindIO = do\n  1\n  2", "local", "int 1", "app (0 1)", "int 2", "lam (3)", "app (2 4)", "lam (5)")
	checkDef(t, "f x = do\n  u <- returnIO x\n  print x\n  returnIO u",
		"con bindIO 2", "con returnIO 1", "local", "app (1 2)", "delay (3) [0]", "app (0 4)",
		"con bindIO 2", "con print 1", "local", "app (7 8)", "delay (9) [0]", "app (6 10)",
		"con returnIO 1", "local", "app (12 13)", "lam (14)", "app (11 15)", "lam (16) [0]", "app (5 17)", "lam (18)")
}

// P12.2: what holds a second Kid is its operation, if it is a number, a name, a constructor or a function, and else done when it is needed; all others are done at once.
func TestHeld(t *testing.T) {
	checkDef(t, "f g x = g 1", "local", "int 1", "app (0 1)", "lam (2) [0]", "lam (3)")
	checkDef(t, "f g x = g x", "local", "local 1", "app (0 1)", "lam (2) [0]", "lam (3)")
	checkCode(t, prog("one = 1\nf g = g one\nmain = f print"), []int{0, 4, 7}, "int 1", "local", "global", "app (1 2)", "lam (3)", "global 1", "con print 1", "app (5 6)")
	checkDef(t, "f g x = g print", "local", "con print 1", "app (0 1)", "lam (2) [0]", "lam (3)")
	checkDef(t, "f g x = g C", "local", "con C 2", "app (0 1)", "lam (2) [0]", "lam (3)")
	checkDef(t, "f g x = g N", "local", "con N", "app (0 1)", "lam (2) [0]", "lam (3)")
	checkDef(t, "f g x = g (\\y -> x)", "local", "local", "lam (1) [1]", "app (0 2)", "lam (3) [0]", "lam (4)")
	checkDef(t, "f g x = g (x 1)", "local", "local", "int 1", "app (1 2)", "delay (3) [1]", "app (0 4)", "lam (5) [0]", "lam (6)")
	checkDef(t, "f g x = g (x + 1)", "local", "local", "int 1", "prim + (1 2)", "delay (3) [1]", "app (0 4)", "lam (5) [0]", "lam (6)")
	checkDef(t, "f g x = g (let y = x in y)", "local", "local", "delay (1) [0]", "local 1", "let (2 3)", "delay (4) [1]", "app (0 5)", "lam (6) [0]", "lam (7)")
	checkDef(t, "f g x = g (case x of\n  N -> 1)", "local", "local", "int 1", "case (1) | N 0 -> 2", "delay (3) [1]", "app (0 4)", "lam (5) [0]", "lam (6)")
	checkDef(t, "f g x = g x x + g x (x + 1)",
		"local", "local 1", "app (0 1)", "local 1", "app (2 3)",
		"local", "local 1", "app (5 6)", "local", "int 1", "prim + (8 9)", "delay (10) [1]", "app (7 11)",
		"prim + (4 12)", "lam (13) [0]", "lam (14)")
}

// P12.2: as many Defs as may be, each named by its place, and constructors of 0 Args, and of as many as may be.
func TestMany(t *testing.T) {
	p := api.Prog{Datas: []api.Data{{Name: "D"}}}
	var want []string
	var defs []int
	for i := range 39 {
		n := strconv.Itoa(i)
		p.Datas[0].Forms = append(p.Datas[0].Forms, api.Form{Name: "A" + n, Args: slices.Repeat([]api.Sig{{Name: "Int"}}, i+1)})
		p.Defs = append(p.Defs, def("f"+n, lam("x", of(api.EApp, con("A"+n), v("f"+n)))))
		p.Defs[i].Body.Kids[0].Kids[1] = number(i + 1)
		want = append(want, "con A"+n+" "+strconv.Itoa(i+1), "int "+strconv.Itoa(i+1), "app ("+strconv.Itoa(4*i)+" "+strconv.Itoa(4*i+1)+")", "lam ("+strconv.Itoa(4*i+2)+")")
		defs = append(defs, 4*i+3)
	}
	p.Defs = append(p.Defs, def("main", call(v("returnIO"), v("f38"))))
	checkCode(t, p, append(defs, 158), append(want, "con returnIO 1", "global 38", "app (156 157)")...)
	p.Defs = append(p.Defs, mainDef())
	checkWrong(t, p, -1, api.ErrTree)
}

// P12.2: trees as deep, and as great, as may be, and of a part more.
func TestGreat(t *testing.T) {
	got, at, err := Prog(withMain(def("f", deep(29)), def("g", lam("x", sum(v("x"), 499)))))
	if at != -1 || err != api.OK || len(got.Ops) != 57+998+3 || !slices.Equal(got.Defs, []int{56, 1054, 1057}) || !Check(got) {
		t.Errorf("%d, %d, %d, %v", at, err, len(got.Ops), got.Defs)
	}
	checkWrong(t, withMain(def("g", number(1)), def("f", deep(30))), 1, api.ErrNest)
	checkWrong(t, withMain(def("g", number(1)), def("f", sum(number(1), 500))), 1, api.ErrNest)
}

// wide is a function of very many names, below which very many parts take some along.
func wide() api.Expr {
	name := func(level, at int) string { return "a" + strconv.Itoa(level) + "x" + strconv.Itoa(at) }
	e := sum(call(v("id"), plus(v(name(0, 1)), v(name(7, 39)))), 150)
	for level := range 8 {
		var names []string
		for at := range 40 {
			names = append(names, name(level, at))
		}
		e = of(api.ECase, v("p"), alt("A", e, names...))
	}
	return lam("p", e)
}

// R1: as many Defs as may be, each with about as much to take along as may be, are not waited for long.
func TestSoon(t *testing.T) {
	began := time.Now()
	p := withMain(def("id", lam("x", v("x"))))
	p.Datas = []api.Data{{Name: "D", Forms: []api.Form{{Name: "A", Args: slices.Repeat([]api.Sig{{Name: "Int"}}, 40)}}}}
	for i := range 38 {
		p.Defs = append(p.Defs, def("f"+strconv.Itoa(i), wide()))
	}
	got, at, err := Prog(p)
	if at != -1 || err != api.OK || !Check(got) || len(got.Ops) < 38*900 {
		t.Fatalf("%d, %d, %d", at, err, len(got.Ops))
	}
	if took := time.Since(began); took > 20*time.Second {
		t.Errorf("took %v", took)
	}
}
