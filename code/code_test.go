package code

import (
	"slices"
	"strconv"
	"strings"
	"testing"

	"dawdler/api"
	"dawdler/check"
	"dawdler/parse"
)

// kindNames are the kinds of operations, from 1 on, as tests write them.
func kindNames() []string {
	return []string{"int", "local", "global", "con", "lam", "app", "let", "case", "prim", "delay"}
}

// opText is an operation as tests write it: its kind, and what is not empty of its Name, N, Kids, Caps and Ways.
func opText(op api.Op) string {
	s := kindNames()[op.Kind-1]
	if op.Name != "" {
		s += " " + op.Name
	}
	if op.N != 0 {
		s += " " + strconv.Itoa(op.N)
	}
	if len(op.Kids) > 0 {
		s += " (" + placesText(op.Kids) + ")"
	}
	if len(op.Caps) > 0 {
		s += " [" + placesText(op.Caps) + "]"
	}
	for _, way := range op.Ways {
		s += " | " + way.Con + " " + strconv.Itoa(way.Many) + " -> " + strconv.Itoa(way.To)
	}
	return s
}

func placesText(l []int) string {
	var s []string
	for _, n := range l {
		s = append(s, strconv.Itoa(n))
	}
	return strings.Join(s, " ")
}

// codeText is all operations, one a line.
func codeText(c api.Code) string {
	var l []string
	for _, op := range c.Ops {
		l = append(l, opText(op))
	}
	return strings.Join(l, "\n")
}

// cut is as much of a text as a report needs.
func cut(s string) string { return s[:min(len(s), 600)] }

// prog is the program of a text.
func prog(src string) api.Prog {
	p, _, err := parse.Text([]byte(src))
	if err != api.OK {
		panic(src)
	}
	return p
}

// checkCode asks for a program's operations, each as a text, and for the places of its Defs.
func checkCode(t *testing.T, p api.Prog, defs []int, want ...string) {
	t.Helper()
	got, at, err := Prog(p)
	if err != api.OK || at != -1 || !slices.Equal(got.Defs, defs) || codeText(got) != strings.Join(want, "\n") {
		t.Errorf("%d, %d, %v:\n%s\nwant %v:\n%s", at, err, got.Defs, cut(codeText(got)), defs, cut(strings.Join(want, "\n")))
	}
	if !Check(got) {
		t.Error("they may not be")
	}
}

// checkBody asks for the operations of a program of a main alone, whose text it is.
func checkBody(t *testing.T, src string, want ...string) {
	t.Helper()
	checkCode(t, prog("main = "+src), []int{len(want) - 1}, want...)
}

// checkWrong asks for an error, its place, and nothing beside it.
func checkWrong(t *testing.T, p api.Prog, at int, want api.Errno) {
	t.Helper()
	got, where, err := Prog(p)
	if err != want || where != at || len(got.Ops) != 0 || len(got.Defs) != 0 {
		t.Errorf("%s, %v, %d, %d; want %d, %d", cut(codeText(got)), got.Defs, where, err, at, want)
	}
}

// P12.1: of how many all are that are given.
func TestArityGiven(t *testing.T) {
	want := map[string]int{
		"True": 0, "False": 0, "Unit": 0, "returnIO": 1, "bindIO": 2, "print": 1, "forkIO": 1, "atomically": 1, "returnSTM": 1, "bindSTM": 2,
		"newTVar": 1, "readTVar": 1, "writeTVar": 2, "retry": 0, "orElse": 2, "throwSTM": 1, "catchSTM": 2,
	}
	for name, many := range want {
		for _, l := range [][]api.Data{nil, prog("data L a = N | C a (L a)\n").Datas} {
			if got := Arity(l, name); got != many {
				t.Errorf("%s: %d; want %d", name, got, many)
			}
		}
	}
	for _, a := range check.Given() {
		if _, is := want[a.Name]; !is {
			t.Errorf("%s is not asked for", a.Name)
		}
	}
}

// P12.1: of how many constructors are, of any Data; and what is none.
func TestArityForms(t *testing.T) {
	l := prog("data L a = N | C a (L a)\ndata F b c = F (b -> c -> IO b) | G\ndata H = H Int Int Int Int Int\n").Datas
	for name, want := range map[string]int{
		"N": 0, "C": 2, "F": 1, "G": 0, "H": 5, "True": 0, "print": 1,
		"L": -1, "a": -1, "b": -1, "Int": -1, "IO": -1, "->": -1, "c": -1, "": -1, "n": -1, "Nn": -1, "main": -1, "print ": -1, "bind": -1, "+": -1,
	} {
		if got := Arity(l, name); got != want {
			t.Errorf("%q: %d; want %d", name, got, want)
		}
	}
	if got := Arity(nil, "C"); got != -1 {
		t.Errorf("%d", got)
	}
}

// form is a Form of a Name, of so many Args.
func form(name string, many int) api.Form {
	return api.Form{Name: name, Args: make([]api.Sig, many)}
}

// P12.1, R1: of Datas that may not be: a given one is what is given, and of two Forms of a Name the first one is asked.
func TestArityHandMade(t *testing.T) {
	l := []api.Data{
		{},
		{Name: "A", Forms: []api.Form{form("print", 3), form("A", 100), form("A", 1), form("Unit", 2), form("b", 2)}},
		{Name: "A", Forms: []api.Form{form("A", 5), form("", 4), form("B", 7), form("retry", 7), form("", 1)}},
		{Forms: []api.Form{form("B", 0), form("True", 1), form("\xff", 9)}},
	}
	for name, want := range map[string]int{"print": 1, "A": 100, "Unit": 0, "b": 2, "": 4, "B": 7, "retry": 0, "True": 0, "\xff": 9, "C": -1} {
		if got := Arity(l, name); got != want {
			t.Errorf("%q: %d; want %d", name, got, want)
		}
	}
}

// P12.2: the chapter's example.
func TestExample(t *testing.T) {
	checkBody(t, "print 1", "con print 1", "int 1", "app (0 1)")
}

// P12.2: what each kind of tree is.
func TestKinds(t *testing.T) {
	checkBody(t, "returnIO 0", "con returnIO 1", "int", "app (0 1)")
	checkBody(t, "returnIO retry", "con returnIO 1", "con retry", "app (0 1)")
	checkBody(t, "returnIO Unit", "con returnIO 1", "con Unit", "app (0 1)")
	checkBody(t, "returnIO (\\x -> x)", "con returnIO 1", "local", "lam (1)", "app (0 2)")
	checkBody(t, "returnIO (print 3)", "con returnIO 1", "con print 1", "int 3", "app (1 2)", "delay (3)", "app (0 4)")
	checkBody(t, "returnIO (4 < 5)", "con returnIO 1", "int 4", "int 5", "prim < (1 2)", "delay (3)", "app (0 4)")
	checkBody(t, "returnIO (let x = 1 in x)", "con returnIO 1", "int 1", "delay (1)", "local", "let (2 3)", "delay (4)", "app (0 5)")
	checkBody(t, "returnIO (if True then 1 else 2)",
		"con returnIO 1", "con True", "int 1", "int 2", "case (1) | True 0 -> 2 | False 0 -> 3", "delay (4)", "app (0 5)")
	checkBody(t, "if False then print 1 else print 2",
		"con False", "con print 1", "int 1", "app (1 2)", "con print 1", "int 2", "app (4 5)", "case (0) | True 0 -> 3 | False 0 -> 6")
	checkBody(t, "let x = print 1 in x", "con print 1", "int 1", "app (0 1)", "delay (2)", "local", "let (3 4)")
	checkBody(t, "(\\x -> x) (print 1)", "local", "lam (0)", "con print 1", "int 1", "app (2 3)", "delay (4)", "app (1 5)")
	for _, op := range []string{"+", "-", "*", "/", "=="} {
		checkBody(t, "returnIO (4 "+op+" 5)", "con returnIO 1", "int 4", "int 5", "prim "+op+" (1 2)", "delay (3)", "app (0 4)")
	}
}

// P12.2: sugar is what it stands for.
func TestSugar(t *testing.T) {
	checkBody(t, "do\n  x <- returnIO 1\n  print 2\n  print x",
		"con bindIO 2", "con returnIO 1", "int 1", "app (1 2)", "delay (3)", "app (0 4)",
		"con bindIO 2", "con print 1", "int 2", "app (7 8)", "delay (9)", "app (6 10)",
		"con print 1", "local", "app (12 13)", "lam (14) [0]",
		"app (11 15)", "lam (16)", "app (5 17)")
	checkBody(t, "atomically (dos\n  v <- newTVar 1\n  readTVar v)",
		"con atomically 1", "con bindSTM 2", "con newTVar 1", "int 1", "app (2 3)", "delay (4)", "app (1 5)",
		"con readTVar 1", "local", "app (7 8)", "lam (9)", "app (6 10)", "delay (11)", "app (0 12)")
}

// P12.2: Defs stand one behind the other, and are named by their places among the Defs; constructors are of as many as their Forms have.
func TestDefs(t *testing.T) {
	checkCode(t, prog("data L a = N | C a (L a)\nfrom n = C n (from (n + 1))\nhead l = case l of\n  N -> 0\n  C h t -> h\nmain = print (head (from 3))"),
		[]int{11, 16, 25},
		"con C 2", "local", "app (0 1)", "global", "local", "int 1", "prim + (4 5)", "delay (6) [0]", "app (3 7)", "delay (8) [0]", "app (2 9)", "lam (10)",
		"local", "int", "local 1", "case (12) | N 0 -> 13 | C 2 -> 14", "lam (15)",
		"con print 1", "global 1", "global", "int 3", "app (19 20)", "delay (21)", "app (18 22)", "delay (23)", "app (17 24)")
	checkCode(t, prog("a = 1\nb = a\nc = b\nmain = print b"), []int{0, 1, 2, 5}, "int 1", "global", "global 1", "con print 1", "global 1", "app (3 4)")
	checkCode(t, prog("f = f\nmain = bindIO main (\\x -> main)"), []int{0, 6}, "global", "con bindIO 2", "global 1", "app (1 2)", "global 1", "lam (4)", "app (3 5)")
}

// P12.2: what check.Prog refuses, with its place.
func TestWrong(t *testing.T) {
	checkWrong(t, api.Prog{}, -1, api.ErrMain)
	checkWrong(t, prog("f = 1"), -1, api.ErrMain)
	checkWrong(t, prog("main = 1"), -1, api.ErrMain)
	checkWrong(t, prog("data T = A Q\nmain = print 1"), -1, api.ErrName)
	checkWrong(t, prog("data T = True\nmain = print 1"), -1, api.ErrName)
	checkWrong(t, prog("f = 1\nmain = print x"), 1, api.ErrName)
	checkWrong(t, prog("main = print f\nf = 1"), 0, api.ErrName)
	checkWrong(t, prog("f = 1\nmain = print A"), 1, api.ErrName)
	checkWrong(t, prog("f = 1\ng = 2\nmain = print 1\nf = 3"), 3, api.ErrName)
	checkWrong(t, prog("f = 1\ng = 2\nprint = 3\nmain = f"), 2, api.ErrName)
	checkWrong(t, prog("main = print 1\nf = f f"), 1, api.ErrType)
	checkWrong(t, prog("main = atomically (print 1)"), 0, api.ErrType)
	checkWrong(t, api.Prog{Defs: []api.Def{{}}}, -1, api.ErrTree)
	checkWrong(t, api.Prog{Defs: []api.Def{{Name: "main", Body: api.Expr{Kind: 14}}}}, -1, api.ErrTree)
	checkWrong(t, api.Prog{Datas: []api.Data{{}}, Defs: prog("main = print 1").Defs}, -1, api.ErrTree)
}

// good is what may be: an operation of each kind.
func good() api.Code {
	return api.Code{
		Ops: []api.Op{
			{Kind: api.OInt, N: 7},
			{Kind: api.OLocal, N: 3},
			{Kind: api.OGlobal, N: 1},
			{Kind: api.OCon, N: 2, Name: "C"},
			{Kind: api.OLam, Kids: []int{0}, Caps: []int{0, 2}},
			{Kind: api.OApp, Kids: []int{4, 3}},
			{Kind: api.OLet, Kids: []int{1, 0}},
			{Kind: api.OCase, Kids: []int{6}, Ways: []api.Way{{Con: "N", To: 0}, {Con: "C", Many: 2, To: 6}}},
			{Kind: api.OPrim, Name: "+", Kids: []int{7, 0}},
			{Kind: api.ODelay, Kids: []int{8}, Caps: []int{5}},
		},
		Defs: []int{9, 0},
	}
}

// P12.3: what may be.
func TestCheckGood(t *testing.T) {
	for i, change := range []func(c *api.Code){
		func(c *api.Code) {},
		func(c *api.Code) { c.Defs = []int{0, 1, 2, 3, 9, 9} },
		func(c *api.Code) { *c = api.Code{} },
		func(c *api.Code) { *c = api.Code{Ops: []api.Op{}, Defs: []int{}} },
		func(c *api.Code) { c.Ops[2].N, c.Ops[1].N, c.Ops[0].N, c.Ops[3].N = 0, 1<<62, 1<<62, 1<<62 },
		func(c *api.Code) { c.Ops[7].Ways = nil },
		func(c *api.Code) { c.Ops[7].Ways[0].To, c.Ops[7].Ways[1].Many = 6, -1 },
		func(c *api.Code) { c.Ops[7].Ways[0].Con = "" },
		func(c *api.Code) { c.Ops[9].Kids[0], c.Ops[8].Kids[1] = 0, 7 },
		func(c *api.Code) { c.Ops[4].Caps = []int{3, 3, 0, 1 << 62} },
		func(c *api.Code) { c.Ops[4].N, c.Ops[4].Name, c.Ops[0].Name, c.Ops[0].Caps = 1, "f", "+", []int{0} },
		func(c *api.Code) { c.Ops[5].Ways = []api.Way{{To: 4}} },
		func(c *api.Code) { c.Ops[9] = api.Op{Kind: api.OInt} },
		func(c *api.Code) { c.Ops[2].Kind = api.OLocal; c.Defs = nil },
	} {
		c := good()
		if change(&c); !Check(c) {
			t.Errorf("%d: it may be", i)
		}
	}
	for _, name := range []string{"+", "-", "*", "/", "==", "<"} {
		c := good()
		if c.Ops[8].Name = name; !Check(c) {
			t.Errorf("%s may be", name)
		}
	}
}

// P12.3: what may not be, wherever it is.
func TestCheckBad(t *testing.T) {
	for i, change := range []func(c *api.Code){
		func(c *api.Code) { c.Defs = []int{9, 10} },
		func(c *api.Code) { c.Defs = []int{-1, 0} },
		func(c *api.Code) { c.Ops = nil },
		func(c *api.Code) { c.Ops[2].N = 2 },
		func(c *api.Code) { c.Ops[2].N = -1 },
		func(c *api.Code) { c.Ops[2].N = 9; c.Ops = c.Ops[:3]; c.Defs = c.Defs[1:] },
		func(c *api.Code) { c.Defs = nil },
		func(c *api.Code) { c.Ops[4].Kids[0] = 4 },
		func(c *api.Code) { c.Ops[4].Kids[0] = 5 },
		func(c *api.Code) { c.Ops[4].Kids[0] = -1 },
		func(c *api.Code) { c.Ops[5].Kids[1] = 5 },
		func(c *api.Code) { c.Ops[5].Kids[1] = 1 << 62 },
		func(c *api.Code) { c.Ops[6].Kids[0] = -1 << 63 },
		func(c *api.Code) { c.Ops[7].Ways[0].To = 7 },
		func(c *api.Code) { c.Ops[7].Ways[1].To = 8 },
		func(c *api.Code) { c.Ops[7].Ways[1].To = -1 },
		func(c *api.Code) { c.Ops[0].Ways = []api.Way{{}} },
		func(c *api.Code) { c.Ops[5].Ways = []api.Way{{To: 5}} },
		func(c *api.Code) { c.Ops[9].Caps[0] = -1 },
		func(c *api.Code) { c.Ops[4].Caps[1] = -2 },
		func(c *api.Code) { c.Ops[0].Caps = []int{1, 1, -1} },
		func(c *api.Code) { c.Ops[8].N = -1 },
		func(c *api.Code) { c.Ops[7].N = -1 << 63 },
	} {
		c := good()
		if change(&c); Check(c) {
			t.Errorf("%d: it may not be", i)
		}
	}
	for _, name := range []string{"", "++", "%", "=", "=>", "<=", ">", "x", "+ ", "->"} {
		c := good()
		if c.Ops[8].Name = name; Check(c) {
			t.Errorf("%q may not be", name)
		}
	}
}

// P12.3: each kind has so many Kids, and none that is no kind may be.
func TestCheckKids(t *testing.T) {
	want := map[int]int{api.OInt: 0, api.OLocal: 0, api.OGlobal: 0, api.OCon: 0, api.OLam: 1, api.OApp: 2, api.OLet: 2, api.OCase: 1, api.OPrim: 2, api.ODelay: 1}
	for _, kind := range []int{-1 << 63, -10, -1, 0, 1, 2, 3, 4, 5, 6, 7, 8, 9, 10, 11, 12, 1 << 62} {
		for many := range 5 {
			op := api.Op{Kind: kind, Name: "+", Kids: make([]int, many)}
			c := api.Code{Ops: []api.Op{{Kind: api.OInt}, op, {Kind: api.OInt}}, Defs: []int{1}}
			has, is := want[kind]
			if got := Check(c); got != (is && has == many) {
				t.Errorf("kind %d, %d Kids: %v", kind, many, got)
			}
		}
	}
}
