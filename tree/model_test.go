package tree

import (
	"math"
	"slices"
	"testing"

	"dawdler/api"
	"dawdler/lex"
)

// row is what the chapter says of a Kind: what its Name, its Num and its Names may be, and where which Kids.
type row struct {
	name       func(string) bool
	number     bool
	names      func([]string) bool
	least      int
	most       int
	alt, bound func(at, many int) bool
}

func noText(s string) bool             { return s == "" }
func operation(s string) bool          { return slices.Contains([]string{"+", "-", "*", "/", "==", "<"}, s) }
func noNames(l []string) bool          { return len(l) == 0 }
func oneName(l []string) bool          { return len(l) == 1 && lex.Name(l[0]) }
func nowhere(at, many int) bool        { return false }
func behindTheFirst(at, many int) bool { return at > 0 }
func aheadOfLast(at, many int) bool    { return at+1 < many }

func someNames(l []string) bool {
	for i, s := range l {
		if !lex.Name(s) || slices.Contains(l[i+1:], s) {
			return false
		}
	}
	return true
}

// table is the chapter's list.
func table() map[int]row {
	const any = math.MaxInt
	return map[int]row{
		1:  {noText, true, noNames, 0, 0, nowhere, nowhere},
		2:  {lex.Name, false, noNames, 0, 0, nowhere, nowhere},
		3:  {lex.Con, false, noNames, 0, 0, nowhere, nowhere},
		4:  {noText, false, oneName, 1, 1, nowhere, nowhere},
		5:  {noText, false, noNames, 2, 2, nowhere, nowhere},
		6:  {noText, false, oneName, 2, 2, nowhere, nowhere},
		7:  {noText, false, noNames, 2, any, behindTheFirst, nowhere},
		8:  {lex.Con, false, someNames, 1, 1, nowhere, nowhere},
		9:  {operation, false, noNames, 2, 2, nowhere, nowhere},
		10: {noText, false, noNames, 3, 3, nowhere, nowhere},
		11: {noText, false, noNames, 1, any, nowhere, aheadOfLast},
		12: {noText, false, noNames, 1, any, nowhere, aheadOfLast},
		13: {noText, false, oneName, 1, 1, nowhere, nowhere},
	}
}

// isSound goes by the table alone.
func isSound(e api.Expr, t map[int]row) bool {
	r, ok := t[e.Kind]
	if !ok || !r.name(e.Name) || !r.names(e.Names) || e.Num < 0 || e.Num > 0 && !r.number || len(e.Kids) < r.least || len(e.Kids) > r.most {
		return false
	}
	for i, k := range e.Kids {
		if !isSound(k, t) || (k.Kind == 8) != r.alt(i, len(e.Kids)) || k.Kind == 13 && !r.bound(i, len(e.Kids)) {
			return false
		}
	}
	return true
}

func trueDepth(e api.Expr) int {
	most := 0
	for _, k := range e.Kids {
		most = max(most, trueDepth(k))
	}
	return most + 1
}

func trueSize(e api.Expr) int {
	all := 1
	for _, k := range e.Kids {
		all += trueSize(k)
	}
	return all
}

func sugarless(e api.Expr) bool {
	return !slices.Contains([]int{10, 11, 12, 13}, e.Kind) && !slices.ContainsFunc(e.Kids, func(k api.Expr) bool { return !sugarless(k) })
}

// used are the EVars' Names that are not among those that are bound, once for each place.
func used(e api.Expr, bound []string) []string {
	var l []string
	if e.Kind == 2 && !slices.Contains(bound, e.Name) {
		l = []string{e.Name}
	}
	for i, k := range e.Kids {
		in := slices.Clone(bound)
		switch e.Kind {
		case 4, 6, 8:
			in = append(in, e.Names...)
		case 11, 12:
			for _, ahead := range e.Kids[:i] {
				if ahead.Kind == 13 {
					in = append(in, ahead.Names...)
				}
			}
		}
		l = append(l, used(k, in)...)
	}
	return l
}

func once(l []string) []string {
	var m []string
	for _, s := range l {
		if !slices.Contains(m, s) {
			m = append(m, s)
		}
	}
	return m
}

// checkModel holds all that is told of a tree against the chapter's words, and tells whether it may be.
func checkModel(t *testing.T, e api.Expr, rows map[int]row) bool {
	t.Helper()
	depth, size := trueDepth(e), trueSize(e)
	may := depth <= 30 && size <= 1000 && e.Kind != 8 && e.Kind != 13 && isSound(e, rows)
	var free []string
	if may {
		free = once(used(e, nil))
	}
	if Check(e) != may || Core(e) != (may && sugarless(e)) || !slices.Equal(Free(e), free) {
		t.Fatalf("%s: %v, %v, %v; want %v, %v, %v", short(e), Check(e), Core(e), Free(e), may, may && sugarless(e), free)
	}
	if Depth(e) != min(depth, 101) || Size(e) != min(size, 100001) {
		t.Fatalf("%s: a depth of %d, a size of %d; want %d, %d", short(e), Depth(e), Size(e), depth, size)
	}
	return may
}

// source makes numbers below what is asked for, the same ones in each run.
func source(seed uint64) func(int) int {
	return func(n int) int {
		seed = seed*6364136223846793005 + 1442695040888963407
		return int(seed>>33) % n
	}
}

// P4.1, P4.2: each Kind with each mix of parts, right ones and wrong ones.
func TestAllParts(t *testing.T) {
	kids := []api.Expr{v("x"), alt("A", v("y"), "y"), bind("y", v("y")), v("A")}
	lists := [][]api.Expr{nil}
	for from, many := 0, 0; many < 4; many++ {
		to := len(lists)
		for ; from < to; from++ {
			for _, k := range kids {
				lists = append(lists, append(slices.Clone(lists[from]), k))
			}
		}
	}
	rows, fine := table(), 0
	for kind := -1; kind <= 15; kind++ {
		for _, name := range []string{"", "x", "A", "+", "==", "of", "->"} {
			for _, n := range []int{0, 1, -1} {
				for _, names := range [][]string{nil, {"x"}, {"x", "y"}, {"y", "y"}, {"A"}} {
					for _, l := range lists {
						e := api.Expr{Kind: kind, Name: name, Num: n, Names: names, Kids: l}
						if checkModel(t, e, rows) {
							fine++
						}
					}
				}
			}
		}
	}
	// Of each Kind's row: 2 numbers, a name, a constructor, a function of a name, and so on.
	if want := 2 + 1 + 1 + 1 + 1 + 1 + 3 + 2 + 1 + 2*(1+2+4+8); fine != want {
		t.Errorf("%d trees may be, not %d", fine, want)
	}
}

// grow makes a tree that is sound, with names of a few letters, so that many are bound, and hidden, and free.
func grow(next func(int) int, depth int) api.Expr {
	name := func() string { return string(rune('a' + next(4))) }
	kid := func() api.Expr { return grow(next, depth-1) }
	if depth <= 1 || next(6) == 0 {
		return []api.Expr{number(next(3)), v(name()), v(name()), con("A")}[next(4)]
	}
	switch next(9) {
	case 0, 1:
		return lam(name(), kid())
	case 2:
		return app(kid(), kid())
	case 3:
		return let(name(), kid(), kid())
	case 4:
		l := []api.Expr{kid()}
		for range 1 + next(3) {
			l = append(l, alt("A", kid(), []string{"a", "b", "c", "d"}[next(4):][:next(2)]...))
		}
		return of(api.ECase, l...)
	case 5:
		return op("<", kid(), kid())
	case 6:
		return of(api.EIf, kid(), kid(), kid())
	}
	var l []api.Expr
	for range next(4) {
		l = append(l, []api.Expr{bind(name(), kid()), kid()}[next(2)])
	}
	return of(api.EDo+next(2), append(l, kid())...)
}

// spoil changes one place of a tree, as it may be, or may not.
func spoil(next func(int) int, e *api.Expr) {
	for len(e.Kids) > 0 && next(3) > 0 {
		e = &e.Kids[next(len(e.Kids))]
	}
	switch next(6) {
	case 0:
		e.Kind = next(16) - 1
	case 1:
		e.Name = []string{"", "a", "B", "in", "*"}[next(5)]
	case 2:
		e.Num = []int{0, 1, -1, math.MinInt, math.MaxInt}[next(5)]
	case 3:
		e.Names = [][]string{nil, {}, {"a"}, {"B"}, {"a", "b"}, {"a", "a"}}[next(6)]
	case 4:
		e.Kids = append(e.Kids, []api.Expr{v("a"), alt("A", v("a")), bind("a", v("a")), {}}[next(4)])
	case 5:
		if len(e.Kids) > 0 {
			e.Kids = e.Kids[1:]
		}
	}
}

// P4.1, P4.2: many trees, as they are, and with one place changed.
func TestManyTrees(t *testing.T) {
	next, rows := source(4), table()
	fine, still := 0, 0
	const many = 40000
	for i := range many {
		e := grow(next, 1+i%9)
		if checkModel(t, e, rows) {
			fine++
		}
		spoil(next, &e)
		if checkModel(t, e, rows) {
			still++
		}
	}
	if fine < many/2 || still < many/20 || still > many*9/10 {
		t.Errorf("%d trees may be, %d with a place changed", fine, still)
	}
}

// P4.3: what is free in a part is free in the whole, or bound there.
func TestFreeInParts(t *testing.T) {
	next := source(43)
	asked := 0
	for i := range 4000 {
		e := grow(next, 2+i%6)
		if !Check(e) {
			continue
		}
		free := Free(e)
		var down func(part api.Expr, bound []string)
		down = func(part api.Expr, bound []string) {
			for _, s := range Free(part) {
				asked++
				if !slices.Contains(free, s) && !slices.Contains(bound, s) {
					t.Fatalf("%s is free in %v, and neither free nor bound in %v", s, part, e)
				}
			}
			bound = append(slices.Clone(bound), part.Names...)
			for _, k := range part.Kids {
				down(k, bound)
				if k.Kind == api.EBind {
					bound = append(bound, k.Names...)
				}
			}
		}
		down(e, nil)
	}
	if asked < 10000 {
		t.Errorf("only %d names were asked for", asked)
	}
}

// sigMay is the chapter's sentence on a written type.
func sigMay(s api.Sig) bool {
	if sigDepth(s) > 30 || len(s.Args) > 40 {
		return false
	}
	if !(lex.Con(s.Name) || lex.Name(s.Name) && len(s.Args) == 0 || s.Name == "->" && len(s.Args) == 2) {
		return false
	}
	return !slices.ContainsFunc(s.Args, func(a api.Sig) bool { return !sigMay(a) })
}

func sigDepth(s api.Sig) int {
	most := 0
	for _, a := range s.Args {
		most = max(most, sigDepth(a))
	}
	return most + 1
}

// P4.1: many written types.
func TestManySigs(t *testing.T) {
	next, fine := source(9), 0
	texts := []string{"a", "b", "Int", "T", "T", "->", "->", "List", "List", "Map"}
	odd := []string{"", "of", "-", "a b", "\xff"}
	var grown func(depth int) api.Sig
	grown = func(depth int) api.Sig {
		s := sig(texts[next(len(texts))])
		if next(60) == 0 {
			s.Name = odd[next(len(odd))]
		}
		many := next(4)
		if s.Name == "->" {
			many = 2
		}
		if next(60) == 0 {
			many = next(3)
		}
		if lex.Name(s.Name) && next(40) > 0 || depth <= 1 && s.Name != "->" {
			many = 0
		}
		for range many {
			s.Args = append(s.Args, grown(depth-1))
		}
		return s
	}
	const many = 30000
	for i := range many {
		s := grown(1 + i%5)
		may := sigMay(s)
		if may {
			fine++
		}
		if Prog(arg(sig("a"), s)) != may {
			t.Fatalf("%v: %v", s, !may)
		}
	}
	if fine < many/4 || fine > many*9/10 {
		t.Errorf("%d written types may be", fine)
	}
}
