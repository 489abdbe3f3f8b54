package check

import (
	"slices"
	"strconv"
	"strings"
	"testing"

	"dawdler/api"
	"dawdler/parse"
	"dawdler/scheme"
	"dawdler/ty"
)

// givenTexts are the names that are given, each with its type's text, as the chapter has them.
func givenTexts() []string {
	return []string{
		"True: Bool",
		"False: Bool",
		"Unit: Unit",
		"returnIO: a -> (IO a)",
		"bindIO: (IO a) -> ((a -> (IO b)) -> (IO b))",
		"print: Int -> (IO Unit)",
		"forkIO: (IO a) -> (IO Unit)",
		"atomically: (STM a) -> (IO a)",
		"returnSTM: a -> (STM a)",
		"bindSTM: (STM a) -> ((a -> (STM b)) -> (STM b))",
		"newTVar: a -> (STM (TVar a))",
		"readTVar: (TVar a) -> (STM a)",
		"writeTVar: (TVar a) -> (a -> (STM Unit))",
		"retry: STM a",
		"orElse: (STM a) -> ((STM a) -> (STM a))",
		"throwSTM: Int -> (STM a)",
		"catchSTM: (STM a) -> ((Int -> (STM a)) -> (STM a))",
	}
}

// texts are assumptions as texts.
func texts(l []api.Assume) []string {
	var told []string
	for _, a := range l {
		told = append(told, a.Name+": "+ty.Text(a.Is.Ty))
	}
	return told
}

// counted are the numbers from 0 on, so many.
func counted(many int) []int {
	var l []int
	for n := range many {
		l = append(l, n)
	}
	return l
}

// checkClosed asks that what is assumed is for all its holes, which have the numbers of their first places.
func checkClosed(t *testing.T, l []api.Assume) {
	t.Helper()
	for _, a := range l {
		holes := ty.Holes(a.Is.Ty)
		if !scheme.Check(a.Is) || !slices.Equal(a.Is.All, holes) || !slices.Equal(holes, counted(len(holes))) {
			t.Errorf("%s: for all %v, of %v", a.Name, a.Is.All, holes)
		}
	}
}

// cut is as much of a text as a report needs.
func cut(s string) string { return s[:min(len(s), 400)] }

// prog is the program of a text.
func prog(src string) api.Prog {
	p, _, err := parse.Text([]byte(src))
	if err != api.OK {
		panic(src)
	}
	return p
}

// checkTypes asks for the types of a program's Defs, as texts.
func checkTypes(t *testing.T, p api.Prog, want ...string) {
	t.Helper()
	got, at, err := Prog(p)
	if err != api.OK || at != -1 || !slices.Equal(texts(got), want) {
		t.Errorf("%s, %d, %d; want %s", cut(strings.Join(texts(got), "; ")), at, err, cut(strings.Join(want, "; ")))
	}
	checkClosed(t, got)
}

// checkWrong asks for an error, its place, and nothing beside it.
func checkWrong(t *testing.T, p api.Prog, at int, want api.Errno) {
	t.Helper()
	got, where, err := Prog(p)
	if err != want || where != at || len(got) != 0 {
		t.Errorf("%s, %d, %d; want %d, %d", cut(strings.Join(texts(got), "; ")), where, err, at, want)
	}
}

// P11.1: all that is given, in its order, for all its holes.
func TestGiven(t *testing.T) {
	got := Given()
	if !slices.Equal(texts(got), givenTexts()) {
		t.Errorf("%q", texts(got))
	}
	checkClosed(t, got)
}

// P11.1, R4: a second answer is what the first one was, whatever became of that.
func TestGivenAgain(t *testing.T) {
	one := Given()
	for i := range one {
		a := &one[i]
		a.Name = "x"
		for j := range a.Is.All {
			a.Is.All[j] = 9
		}
		for j := range a.Is.Ty.Args {
			if len(a.Is.Ty.Args[j].Args) > 0 {
				a.Is.Ty.Args[j].Args[0] = api.Type{N: 77}
			}
			a.Is.Ty.Args[j] = api.Type{Name: "Q"}
		}
	}
	_ = append(one[:1], one[:1]...)
	TestGiven(t)
	checkTypes(t, prog("main = bindIO (atomically (newTVar 1)) (\\v -> returnIO v)"), "main: IO (TVar Int)")
}

// P11.2: the chapter's example.
func TestExample(t *testing.T) {
	checkTypes(t, prog("main = print 1"), "main: IO Unit")
}

// P11.2: each of those that are given can be named.
func TestGivenNamed(t *testing.T) {
	src, want := "main = print 1\n", []string{"main: IO Unit"}
	for i, text := range givenTexts() {
		name, is, _ := strings.Cut(text, ": ")
		src += "g" + strconv.Itoa(i) + " = " + name + "\n"
		want = append(want, "g"+strconv.Itoa(i)+": "+is)
	}
	checkTypes(t, prog(src), want...)
}

// P11.2: Datas, and none, and constructors of more than one of them.
func TestDatas(t *testing.T) {
	checkTypes(t, prog(`data L a = N | C a (L a)
data P a b = P a b
len l = case l of
  N -> 0
  C h t -> 1 + len t
both p = case p of
  P a b -> C a (C b N)
empty = N
put = P
main = returnIO (P len both)`),
		"len: (L a) -> Int",
		"both: (P a a) -> (L a)",
		"empty: L a",
		"put: a -> (b -> (P a b))",
		"main: IO (P ((L a) -> Int) ((P b b) -> (L b)))")
	checkTypes(t, prog(`data D f = D (f -> IO f) (STM (TVar f))
run d = case d of
  D f s -> do
    v <- atomically s
    x <- atomically (readTVar v)
    f x
main = run (D returnIO (newTVar 1))`), "run: (D a) -> (IO a)", "main: IO Int")
	checkWrong(t, prog("f x = C x\nmain = print 1"), 0, api.ErrName)
	checkWrong(t, prog("data L a = N | C a (L a)\nmain = returnIO (C 1 2)"), 0, api.ErrType)
	checkWrong(t, prog("data L a = N | C a (L a)\nf l = case l of\n  C h -> h\nmain = returnIO 1"), 0, api.ErrType)
	checkWrong(t, prog("main = returnIO (case True of\n  C -> 1)"), 0, api.ErrName)
}

// P11.2: names are those of Defs ahead, and the own one; of one type there, of all behind.
func TestNames(t *testing.T) {
	checkTypes(t, prog("id x = x\nf = id id\ng = id 1\nh x = id (id x) == id g\nmain = returnIO (id f)"),
		"id: a -> a", "f: a -> a", "g: Int", "h: Int -> Bool", "main: IO (a -> a)")
	checkTypes(t, prog("loop x = loop x\nmain = returnIO (loop (loop 1))"), "loop: a -> b", "main: IO a")
	checkTypes(t, prog("f x y = if x == 0 then y else f (x - 1) y\nmain = do\n  print (f 1 2)\n  f 3 (print 4)"), "f: Int -> (a -> a)", "main: IO Unit")
	checkTypes(t, prog("k x y = x\nk2 = k\nk3 x = k2 k x\nmain = print (k3 1 2 3)"),
		"k: a -> (b -> a)", "k2: a -> (b -> a)", "k3: a -> (b -> (c -> b))", "main: IO Unit")
	checkWrong(t, prog("f = g\ng = 1\nmain = print 1"), 0, api.ErrName)
	checkWrong(t, prog("f x = main\nmain = print 1"), 0, api.ErrName)
	checkWrong(t, prog("main = print 1\nf = f f"), 1, api.ErrType)
	checkWrong(t, prog("main = print 1\nf x = f 1 + f True"), 1, api.ErrType)
	checkWrong(t, prog("main = print nobody"), 0, api.ErrName)
	checkWrong(t, prog("a = 1\nb = a 1\nmain = print 1"), 1, api.ErrType)
}

// P11.2: what a Def binds hides Defs and what is given, within it alone.
func TestHidden(t *testing.T) {
	checkTypes(t, prog("f print main = print + main\ng f = f 1\nmain = print (f 1 2)"),
		"f: Int -> (Int -> Int)", "g: (Int -> a) -> a", "main: IO Unit")
	checkTypes(t, prog("f x = let f = x + 1 in f\ng x = let print = \\y -> y in print print x\nmain = print (f 1)"),
		"f: Int -> Int", "g: a -> a", "main: IO Unit")
	checkTypes(t, prog("f bindIO = do\n  1\n  2\nmain = print 1"), "f: (Int -> ((a -> Int) -> b)) -> b", "main: IO Unit")
}

// P11.2: constructors, and the names that a Data is of, have nothing to do with Defs' names.
func TestConstructorsAndDefs(t *testing.T) {
	checkTypes(t, prog("data Main main print = Main main | Print print\nmain = print 1\nf x = Main x\ng = Print main"),
		"main: IO Unit", "f: a -> (Main a b)", "g: Main a (IO Unit)")
	checkTypes(t, prog("data True = Int\ndata F = F\nf = F\nmain = returnIO Int"), "f: F", "main: IO True")
}

// P11.2: main is a Def anywhere, and its type IO, of one, whatever that is.
func TestMain(t *testing.T) {
	checkTypes(t, prog("main = returnIO 1\nf = main\ng = bindIO main print"), "main: IO Int", "f: IO Int", "g: IO Unit")
	checkTypes(t, prog("f = 1\nmain = print f\ng = 2"), "f: Int", "main: IO Unit", "g: Int")
	checkTypes(t, prog("main = atomically retry"), "main: IO a")
	checkTypes(t, prog("main = bindIO main returnIO"), "main: IO a")
	checkTypes(t, prog("main = forkIO main"), "main: IO Unit")
	checkTypes(t, prog("data IOx a = IO a\nmain = returnIO (IO 1)"), "main: IO (IOx Int)")
}

// P11.2: no Def main, and one that is no IO.
func TestNoMain(t *testing.T) {
	for _, src := range []string{
		"f = 1",
		"mainn = print 1\nmai = print 2",
		"main = 1",
		"main = True",
		"main = main",
		"main = do\n  main",
		"main = retry",
		"main = returnSTM (print 1)",
		"main x = print x",
		"main = returnIO",
		"main = print",
		"data P a = P a\nmain = P (print 1)",
		"data IOx a = IO a\nmain = IO 1",
		"main = \\x -> x",
	} {
		checkWrong(t, prog(src), -1, api.ErrMain)
	}
	checkWrong(t, api.Prog{}, -1, api.ErrMain)
	checkWrong(t, prog("data L = L"), -1, api.ErrMain)
}

// P11.2: sugar is taken out: what is made of it is what its types are.
func TestSugar(t *testing.T) {
	checkTypes(t, prog(`main = do
  v <- atomically (newTVar 1)
  forkIO (atomically (writeTVar v 2))
  atomically (dos
    x <- readTVar v
    if x == 2 then returnSTM x else retry)`), "main: IO Int")
	checkTypes(t, prog("f b x y = if b then x else y\nmain = bindIO (print 1) (\\x -> print 2)"), "f: Bool -> (a -> (a -> a))", "main: IO Unit")
	checkTypes(t, prog("f v = dos\n  x <- readTVar v\n  y <- readTVar x\n  writeTVar x y\n  returnSTM y\nmain = returnIO f"),
		"f: (TVar (TVar a)) -> (STM a)", "main: IO ((TVar (TVar a)) -> (STM a))")
	checkTypes(t, prog("f u = do\n  print u\n  returnIO u\nmain = print 1"), "f: Int -> (IO Unit)", "main: IO Unit")
	checkWrong(t, prog("f = if 1 then 2 else 3\nmain = print 1"), 0, api.ErrType)
	checkWrong(t, prog("f = if True then 2 else print 3\nmain = print 1"), 0, api.ErrType)
	checkWrong(t, prog("main = do\n  x <- 1\n  print x"), 0, api.ErrType)
}

// P11.3: what is STM is not IO, nor the other way round.
func TestApart(t *testing.T) {
	for _, src := range []string{
		"main = atomically (print 1)",
		"main = atomically (atomically retry)",
		"main = do\n  retry\n  print 1",
		"main = do\n  x <- newTVar 1\n  returnIO x",
		"main = do\n  print 1\n  returnSTM 1",
		"main = atomically (dos\n  print 1\n  returnSTM 2)",
		"main = atomically (dos\n  retry\n  returnIO 2)",
		"main = atomically (do\n  print 1\n  print 2)",
		"main = dos\n  print 1\n  print 2",
		"main = forkIO retry",
		"main = forkIO (writeTVar 1 2)",
		"main = atomically (orElse retry (print 1))",
		"main = atomically (orElse (print 1) retry)",
		"main = atomically (catchSTM retry print)",
		"main = atomically (catchSTM (print 1) throwSTM)",
		"main = bindIO retry print",
		"main = bindSTM retry print",
		"main = bindSTM (print 1) returnSTM",
		"main = if True then print 1 else retry",
	} {
		checkWrong(t, prog(src), 0, api.ErrType)
	}
	checkTypes(t, prog("f v = catchSTM (throwSTM 1) (\\e -> writeTVar v e)\ng a b = orElse a (bindSTM b (\\x -> retry))\nmain = returnIO 1"),
		"f: (TVar Int) -> (STM Unit)", "g: (STM a) -> ((STM b) -> (STM a))", "main: IO Int")
	checkTypes(t, prog("f = returnIO retry\ng = returnSTM (print 1)\nmain = bindIO f atomically"), "f: IO (STM a)", "g: STM (IO Unit)", "main: IO a")
}
