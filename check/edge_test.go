package check

import (
	"slices"
	"strconv"
	"testing"
	"time"

	"dawdler/api"
	"dawdler/sugar"
	"dawdler/tree"
)

func v(name string) api.Expr { return api.Expr{Kind: api.EVar, Name: name} }

func number(n int) api.Expr { return api.Expr{Kind: api.EInt, Num: n} }

func of(kind int, kids ...api.Expr) api.Expr { return api.Expr{Kind: kind, Kids: kids} }

func plus(a, b api.Expr) api.Expr {
	return api.Expr{Kind: api.EOp, Name: "+", Kids: []api.Expr{a, b}}
}

func lam(name string, e api.Expr) api.Expr {
	return api.Expr{Kind: api.ELam, Names: []string{name}, Kids: []api.Expr{e}}
}

// deep is a number that is added up, one below the other, of so many levels.
func deep(levels int) api.Expr {
	e := number(1)
	for range levels - 1 {
		e = plus(number(1), e)
	}
	return e
}

// sum adds up so many of a tree, half and half.
func sum(e api.Expr, many int) api.Expr {
	if many == 1 {
		return e
	}
	return plus(sum(e, many/2), sum(e, many-many/2))
}

// block is a do of so many lines.
func block(lines int) api.Expr {
	return of(api.EDo, slices.Repeat([]api.Expr{of(api.EApp, v("returnIO"), number(1))}, lines)...)
}

// choice is an if, of as many parts as it has at least.
func choice() api.Expr {
	return of(api.EIf, api.Expr{Kind: api.ECon, Name: "True"}, number(1), number(2))
}

func def(name string, body api.Expr) api.Def { return api.Def{Name: name, Body: body} }

func mainDef() api.Def { return def("main", of(api.EApp, v("print"), number(1))) }

// withMain is a program of Defs, and a main behind them.
func withMain(l ...api.Def) api.Prog { return api.Prog{Defs: append(l, mainDef())} }

// data is a Data of one Form.
func data(name, form string, args ...api.Sig) api.Data {
	return api.Data{Name: name, Forms: []api.Form{{Name: form, Args: args}}}
}

// deepSig is a written type of so many levels.
func deepSig(levels int) api.Sig {
	s := api.Sig{Name: "Int"}
	for range levels - 1 {
		s = api.Sig{Name: "IO", Args: []api.Sig{s}}
	}
	return s
}

// great is a Data of a constructor of so many functions, of 59 parts each.
func great(many int) api.Data {
	return data("T", "A", slices.Repeat([]api.Sig{{Name: "->", Args: []api.Sig{deepSig(29), deepSig(29)}}}, many)...)
}

// wrongDatas are programs that scheme.Of refuses, each with what it tells.
func wrongDatas() map[string]api.Errno {
	return map[string]api.Errno{
		"data T = A Q\n":                   api.ErrName,
		"data T = A a\n":                   api.ErrName,
		"data Int = A\n":                   api.ErrName,
		"data T = A\ndata T = B\n":         api.ErrName,
		"data T = A\ndata U = A\n":         api.ErrName,
		"data T = True\n":                  api.ErrName,
		"data T = Unit\n":                  api.ErrName,
		"data T a = A T\n":                 api.ErrName,
		"data T = A (IO Int Int)\n":        api.ErrName,
		"data T = A TVar\n":                api.ErrName,
		"data T = A\ndata U = B (T Int)\n": api.ErrName,
	}
}

// P11.2: a program that may not be.
func TestMayNotBe(t *testing.T) {
	for _, p := range []api.Prog{
		{Defs: []api.Def{{}}},
		{Defs: []api.Def{mainDef(), def("F", number(1))}},
		{Defs: []api.Def{mainDef(), def("f", number(-1))}},
		{Defs: []api.Def{mainDef(), def("if", number(1))}},
		{Defs: []api.Def{mainDef(), def("f", deep(31))}},
		{Defs: []api.Def{mainDef(), def("f", sum(number(1), 501))}},
		{Defs: []api.Def{mainDef(), def("f", of(api.EBind, number(1)))}},
		{Datas: []api.Data{{}}, Defs: []api.Def{mainDef()}},
		{Datas: []api.Data{{Name: "T"}}, Defs: []api.Def{mainDef()}},
		{Datas: []api.Data{data("t", "A")}, Defs: []api.Def{mainDef()}},
		{Datas: []api.Data{data("T", "a")}, Defs: []api.Def{mainDef()}},
		{Datas: []api.Data{data("T", "A", deepSig(31))}, Defs: []api.Def{mainDef()}},
		{Datas: []api.Data{data("T", "A", slices.Repeat([]api.Sig{deepSig(1)}, 41)...)}, Defs: []api.Def{mainDef()}},
	} {
		checkWrong(t, p, -1, api.ErrTree)
	}
}

// P11.2: as many Defs, and Datas, as may be, and one more.
func TestMany(t *testing.T) {
	var p api.Prog
	var want []string
	for i := range 40 {
		n := strconv.Itoa(i)
		p.Datas = append(p.Datas, data("T"+n, "A"+n))
		p.Defs = append(p.Defs, def("f"+n, api.Expr{Kind: api.ECon, Name: "A" + strconv.Itoa(39-i)}))
		want = append(want, "f"+n+": T"+strconv.Itoa(39-i))
	}
	checkWrong(t, p, -1, api.ErrMain)
	p.Defs[17], want[17] = mainDef(), "main: IO Unit"
	checkTypes(t, p, want...)
	more := api.Prog{Datas: p.Datas, Defs: append(slices.Clone(p.Defs), def("g", number(1)))}
	checkWrong(t, more, -1, api.ErrTree)
	more = api.Prog{Datas: append(slices.Clone(p.Datas), data("U", "B")), Defs: p.Defs}
	checkWrong(t, more, -1, api.ErrTree)
}

// P11.2: what scheme.Of refuses.
func TestWrongDatas(t *testing.T) {
	for src, want := range wrongDatas() {
		checkWrong(t, prog(src+"main = print 1"), -1, want)
	}
	checkTypes(t, api.Prog{Datas: []api.Data{great(30)}, Defs: []api.Def{mainDef()}}, "main: IO Unit")
	checkWrong(t, api.Prog{Datas: []api.Data{great(31)}, Defs: []api.Def{mainDef()}}, -1, api.ErrTy)
}

// P11.2: a Def of a given one's Name, or of an earlier one's.
func TestTwice(t *testing.T) {
	for i, a := range Given() {
		if i >= 3 {
			checkWrong(t, withMain(def("f", number(1)), def(a.Name, v(a.Name))), 1, api.ErrName)
			checkTypes(t, withMain(def(a.Name+"1", number(1))), a.Name+"1: Int", "main: IO Unit")
		}
	}
	checkWrong(t, withMain(def("f", number(1)), def("f", number(1))), 1, api.ErrName)
	checkWrong(t, withMain(def("f", number(1)), def("g", number(1)), def("f", v("g"))), 2, api.ErrName)
	checkWrong(t, withMain(mainDef(), def("f", number(1))), 2, api.ErrName)
	checkWrong(t, withMain(def("g", number(1)), def("f", number(1)), def("f", number(1)), def("g", number(1))), 2, api.ErrName)
}

// P11.2: a Body that is as deep as may be once it is in its let, and one that is one deeper; with sugar, too.
func TestDeep(t *testing.T) {
	checkTypes(t, withMain(def("f", deep(29))), "f: Int", "main: IO Unit")
	checkWrong(t, withMain(def("f", deep(30))), 0, api.ErrNest)
	checkTypes(t, withMain(def("f", block(14)), def("g", block(14))), "f: IO Int", "g: IO Int", "main: IO Unit")
	checkTypes(t, withMain(def("f", lam("x", block(14)))), "f: a -> (IO Int)", "main: IO Unit")
	checkWrong(t, withMain(def("f", number(1)), def("g", lam("x", lam("x", block(14))))), 1, api.ErrNest)
	checkWrong(t, withMain(def("f", number(1)), def("g", block(15))), 1, api.ErrNest)
	checkWrong(t, withMain(def("f", number(1)), def("g", number(2)), def("h", block(16))), 2, api.ErrNest)
	for lines, want := range map[int]bool{14: true, 15: true, 16: false} {
		if _, err := sugar.Core(block(lines)); (err == api.OK) != want {
			t.Errorf("the test is wrong: %d lines, %d", lines, err)
		}
	}
}

// P11.2: a Body that is as great as may be once it is in its let, and one of a part more; with sugar, too.
func TestGreat(t *testing.T) {
	checkTypes(t, withMain(def("f", lam("x", sum(number(1), 499)))), "f: a -> Int", "main: IO Unit")
	checkWrong(t, withMain(def("f", sum(number(1), 500))), 0, api.ErrNest)
	checkWrong(t, withMain(def("f", lam("x", sum(number(1), 500)))), 0, api.ErrNest)
	checkTypes(t, withMain(def("f", sum(choice(), 142))), "f: Int", "main: IO Unit")
	checkWrong(t, withMain(def("f", sum(choice(), 143))), 0, api.ErrNest)
	checkWrong(t, withMain(def("f", sum(choice(), 144))), 0, api.ErrNest)
	checkWrong(t, withMain(def("f", number(1)), def("g", sum(choice(), 200))), 1, api.ErrNest)
	if e := sum(choice(), 200); !tree.Check(e) {
		t.Error("the test is wrong")
	}
}

// P11.2: each error ahead of the next one, where both apply.
func TestOrder(t *testing.T) {
	refused, bad := prog("data T = A Q\nmain = print 1").Datas, def("F", number(1))
	checkWrong(t, api.Prog{Datas: refused, Defs: []api.Def{bad}}, -1, api.ErrTree)
	checkWrong(t, api.Prog{Datas: refused, Defs: []api.Def{def("f", deep(30)), def("print", v("q"))}}, -1, api.ErrName)
	checkWrong(t, api.Prog{Datas: refused}, -1, api.ErrName)
	checkWrong(t, api.Prog{Datas: []api.Data{great(40)}, Defs: []api.Def{def("f", deep(30)), def("print", v("q"))}}, -1, api.ErrTy)
	checkWrong(t, api.Prog{Datas: []api.Data{great(40)}}, -1, api.ErrTy)
	for _, e := range []api.Expr{block(16), deep(30), v("q"), of(api.EApp, number(1), number(1))} {
		checkWrong(t, withMain(def("f", number(1)), def("print", e)), 1, api.ErrName)
		checkWrong(t, withMain(def("f", number(1)), def("f", e)), 1, api.ErrName)
	}
	free, wrong := v("q"), of(api.EApp, number(1), number(1))
	for range 29 {
		free, wrong = plus(number(1), free), plus(number(1), wrong)
	}
	checkWrong(t, withMain(def("f", free)), 0, api.ErrNest)
	checkWrong(t, withMain(def("f", wrong.Kids[1])), 0, api.ErrNest)
	checkWrong(t, withMain(def("f", plus(v("q"), block(16)))), 0, api.ErrNest)
	checkWrong(t, withMain(def("f", plus(of(api.EApp, number(1), number(1)), v("q")))), 0, api.ErrName)
	checkWrong(t, api.Prog{Defs: []api.Def{def("f", of(api.EApp, number(1), number(1)))}}, 0, api.ErrType)
	checkWrong(t, api.Prog{Defs: []api.Def{def("main", number(1)), def("f", v("q"))}}, 1, api.ErrName)
}

// P11.2: the place is that of the first Def that is wrong, whatever is wrong with those behind it.
func TestFirstPlace(t *testing.T) {
	kinds := []struct {
		d   api.Def
		err api.Errno
	}{
		{def("print", number(1)), api.ErrName},
		{def("f", number(2)), api.ErrName},
		{def("w", block(16)), api.ErrNest},
		{def("w", deep(30)), api.ErrNest},
		{def("w", v("q")), api.ErrName},
		{def("w", v("later")), api.ErrName},
		{def("w", of(api.EApp, number(1), number(1))), api.ErrType},
		{def("w", of(api.EApp, v("print"), v("print"))), api.ErrType},
	}
	for _, one := range kinds {
		for _, two := range kinds {
			for ahead := range 3 {
				l := []api.Def{def("f", number(1)), def("g", number(1)), def("h", number(1))}[:ahead+1]
				l = append(l, one.d, two.d, def("later", number(1)))
				checkWrong(t, withMain(l...), ahead+1, one.err)
				checkWrong(t, api.Prog{Defs: l}, ahead+1, one.err)
			}
		}
	}
}

// P11.2: a type is assumed for all its holes, however many, and told with them by their first place.
func TestHoles(t *testing.T) {
	checkTypes(t, prog("f a b c d = b\ng x = f x\nh x y = g x y 1\nmain = print (h True 2 3)"),
		"f: a -> (b -> (c -> (d -> b)))", "g: a -> (b -> (c -> (d -> b)))", "h: a -> (b -> (c -> b))", "main: IO Unit")
	checkTypes(t, prog("data P a b = P a b\nswap p = case p of\n  P x y -> P y x\nmain = returnIO swap"),
		"swap: (P a b) -> (P b a)", "main: IO ((P a b) -> (P b a))")
	checkTypes(t, prog("data P b a = P a b\nf = P\nmain = returnIO f"), "f: a -> (b -> (P b a))", "main: IO (a -> (b -> (P b a)))")
}

// checkSoon asks that a call ends in a time in which nobody waits long.
func checkSoon(t *testing.T, p api.Prog) {
	t.Helper()
	at := time.Now()
	if _, _, err := Prog(p); err != api.ErrMain {
		t.Errorf("%d", err)
	}
	if took := time.Since(at); took > 20*time.Second {
		t.Errorf("took %v", took)
	}
}

// R1: very many constructors, each of a great type, and as many Defs as may be, that need none of them.
func TestManyConstructors(t *testing.T) {
	var p api.Prog
	var params []string
	for n := range 900 {
		params = append(params, "p"+strconv.Itoa(n))
	}
	for i := range 40 {
		n := strconv.Itoa(i)
		d := api.Data{Name: "T" + n, Params: params}
		for j := range 40 {
			d.Forms = append(d.Forms, api.Form{Name: "A" + n + "x" + strconv.Itoa(j), Args: slices.Repeat([]api.Sig{deepSig(15)}, 40)})
		}
		p.Datas, p.Defs = append(p.Datas, d), append(p.Defs, def("f"+n, sum(number(1), 499)))
	}
	checkSoon(t, p)
}

// R1: Defs of which each has a type twice as great as the one ahead, up to the one that has none.
func TestDoubled(t *testing.T) {
	p := prog("data P a b = P a b\nf0 x = x\nmain = print 1")
	for i := 1; i < 20; i++ {
		ahead := v("f" + strconv.Itoa(i-1))
		p.Defs = append(p.Defs, def("f"+strconv.Itoa(i), of(api.EApp, of(api.EApp, api.Expr{Kind: api.ECon, Name: "P"}, ahead), ahead)))
	}
	l, at, err := Prog(p)
	if len(l) != 0 || at != 10 || err != api.ErrType {
		t.Errorf("%d, %d, %d", len(l), at, err)
	}
	p.Defs = p.Defs[:10]
	if l, at, err := Prog(p); len(l) != 10 || at != -1 || err != api.OK || len(l[9].Is.All) != 256 {
		t.Errorf("%d, %d, %d", len(l), at, err)
	}
}
