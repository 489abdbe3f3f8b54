package sugar

import (
	"reflect"
	"slices"
	"testing"

	"dawdler/api"
	"dawdler/tree"
)

// rewrite takes one piece of sugar away where a tree begins: the first line of a block, or its braces, or an if; false, if there is none.
func rewrite(e api.Expr) (api.Expr, bool) {
	switch e.Kind {
	case 10:
		return api.Expr{Kind: 7, Kids: []api.Expr{e.Kids[0], {Kind: 8, Name: "True", Kids: e.Kids[1:2]}, {Kind: 8, Name: "False", Kids: e.Kids[2:3]}}}, true
	case 11, 12:
		if len(e.Kids) == 1 {
			return e.Kids[0], true
		}
		first, name := e.Kids[0], "u"
		if first.Kind == 13 {
			first, name = first.Kids[0], first.Names[0]
		}
		by := []string{"bindIO", "bindSTM"}[e.Kind-11]
		behind := api.Expr{Kind: e.Kind, Kids: e.Kids[1:]}
		return app(app(v(by), first), lam(name, behind)), true
	}
	return e, false
}

// trueBare rewrites from above, till nothing changes: the other way round than the chapter.
func trueBare(e api.Expr) api.Expr {
	for again := true; again; {
		e, again = rewrite(e)
	}
	kids := []api.Expr{}
	for _, k := range e.Kids {
		kids = append(kids, trueBare(k))
	}
	e.Kids = kids
	return e
}

// source makes numbers below what is asked for, the same ones in each run.
func source(seed uint64) func(int) int {
	return func(n int) int {
		seed = seed*6364136223846793005 + 1442695040888963407
		return int(seed>>33) % n
	}
}

// checkModel holds an answer against the rewritten tree, and tells the error.
func checkModel(t *testing.T, e api.Expr) api.Errno {
	t.Helper()
	if !tree.Check(e) {
		checkNone(t, e, api.ErrTree)
		return api.ErrTree
	}
	want := trueBare(e)
	if tree.Depth(want) > 30 || tree.Size(want) > 1000 {
		checkNone(t, e, api.ErrNest)
		return api.ErrNest
	}
	checkCore(t, e, want)
	return api.OK
}

// P7.1: blocks of up to five lines, of each kind, in every order, each line one of several.
func TestAllBlocks(t *testing.T) {
	a, b := v("a"), v("b")
	kinds := []api.Expr{a, bind("x", v("x")), cond(a, b, a), do(a, b), dos(a, bind("y", b), a), bind("z", do(bind("u", a), b)), bind("u", dos(b, a))}
	blocks := [][]api.Expr{nil}
	for from, many := 0, 0; many < 4; many++ {
		for to := len(blocks); from < to; from++ {
			for _, k := range kinds {
				blocks = append(blocks, append(slices.Clone(blocks[from]), k))
			}
		}
	}
	for _, ahead := range blocks {
		for _, last := range []api.Expr{b, do(a), dos(a, b), do(bind("x", a), b), cond(b, a, b), lam("w", do(a, b))} {
			for _, kind := range []int{api.EDo, api.EDos} {
				if err := checkModel(t, of(kind, append(slices.Clone(ahead), last)...)); err != api.OK {
					t.Fatalf("%d", err)
				}
			}
		}
	}
}

// grow makes a tree that is sound, with much sugar, no deeper than asked, and hardly of more parts than are left.
func grow(next func(int) int, depth int, left *int) api.Expr {
	name := func() string { return []string{"a", "b", "u", "bindIO", "bindSTM", "x"}[next(6)] }
	kid := func() api.Expr { return grow(next, depth-1, left) }
	*left--
	if depth <= 1 || *left < 0 || next(8) == 0 {
		return []api.Expr{number(next(3)), v(name()), v(name()), con("True")}[next(4)]
	}
	switch next(10) {
	case 0:
		return lam(name(), kid())
	case 1:
		return app(kid(), kid())
	case 2:
		return let(name(), kid(), kid())
	case 3:
		l := []api.Expr{kid()}
		for range 1 + next(3) {
			l = append(l, alt([]string{"True", "A"}[next(2)], kid(), []string{"a", "u", "c", "d"}[next(4):][:next(2)]...))
		}
		return of(api.ECase, l...)
	case 4:
		return op("<", kid(), kid())
	case 5, 6:
		return cond(kid(), kid(), kid())
	}
	var l []api.Expr
	for range next(4) {
		l = append(l, []api.Expr{bind(name(), kid()), kid()}[next(2)])
	}
	return of(api.EDo+next(2), append(l, kid())...)
}

// grown is a tree of up to so many levels, and parts.
func grown(next func(int) int, depth, size int) api.Expr {
	left := next(size)
	return grow(next, 1+next(depth), &left)
}

// P7.1, P7.2: many trees, most of which may be, and some of which are too deep, or too great, once they are bare.
func TestManyTrees(t *testing.T) {
	next, seen := source(7), map[api.Errno]int{}
	for range 20000 {
		seen[checkModel(t, grown(next, 24, 2500))]++
	}
	if seen[api.OK] < 10000 || seen[api.ErrNest] < 500 || seen[api.ErrTree] < 200 {
		t.Errorf("%v", seen)
	}
}

// spoil changes one thing in a tree: its own Kind, Name, Num, Names or Kids, or those of one below.
func spoil(next func(int) int, e api.Expr) api.Expr {
	e.Kids = slices.Clone(e.Kids)
	if len(e.Kids) > 0 && next(4) > 0 {
		at := next(len(e.Kids))
		e.Kids[at] = spoil(next, e.Kids[at])
		return e
	}
	switch next(5) {
	case 0:
		e.Kind = next(16) - 1
	case 1:
		e.Name = []string{"", "x", "A", "+", "do"}[next(5)]
	case 2:
		e.Num = next(3) - 1
	case 3:
		e.Names = [][]string{nil, {"x"}, {"x", "y"}, {"A"}, {"x", "x"}}[next(5)]
	case 4:
		e.Kids = leaves(next(4))
	}
	return e
}

// P7.1: many trees with one thing changed, so that most may not be.
func TestManyWrong(t *testing.T) {
	next, seen := source(71), map[api.Errno]int{}
	for range 40000 {
		seen[checkModel(t, spoil(next, grown(next, 6, 60)))]++
	}
	if seen[api.OK] < 2000 || seen[api.ErrTree] < 10000 {
		t.Errorf("%v", seen)
	}
}

// memory are the first and the last address of each list in a thing, its spare room too.
func memory(x reflect.Value, found *[][2]uintptr) {
	switch x.Kind() {
	case reflect.Slice:
		if x.Cap() > 0 {
			*found = append(*found, [2]uintptr{x.Pointer(), x.Pointer() + uintptr(x.Cap())*x.Type().Elem().Size()})
		}
		for i := range x.Len() {
			memory(x.Index(i), found)
		}
	case reflect.Struct:
		for i := range x.NumField() {
			memory(x.Field(i), found)
		}
	}
}

// roomy is a tree of the same parts, each list with spare room behind it.
func roomy(e api.Expr) api.Expr {
	names := append(slices.Clone(e.Names), "spare", "spare")
	kids := []api.Expr{}
	for _, k := range e.Kids {
		kids = append(kids, roomy(k))
	}
	kids = append(kids, v("spare"))
	e.Names, e.Kids = names[:len(e.Names)], kids[:len(e.Kids)]
	return e
}

// whole is a tree with its spare room.
func whole(e api.Expr) api.Expr {
	e.Names = slices.Clone(e.Names[:cap(e.Names)])
	kids := []api.Expr{}
	for _, k := range e.Kids[:cap(e.Kids)] {
		kids = append(kids, whole(k))
	}
	e.Kids = kids
	return e
}

// fill overwrites all lists of a tree, and their spare room.
func fill(e api.Expr) {
	for i := range e.Names[:cap(e.Names)] {
		e.Names[:cap(e.Names)][i] = "?"
	}
	for _, k := range e.Kids {
		fill(k)
	}
	for i := range e.Kids[:cap(e.Kids)] {
		e.Kids[:cap(e.Kids)][i] = api.Expr{Kind: -9}
	}
}

// R4: the tree that was given is not changed, its spare room neither; an answer is memory of its own, list by list. R5: a call answers the same again.
func TestMemory(t *testing.T) {
	next := source(72)
	for range 2000 {
		e := roomy(grown(next, 8, 60))
		was := whole(e)
		got, err := Core(e)
		again, errAgain := Core(e)
		if err != errAgain || !alike(got, again) {
			t.Fatalf("%s: %s, then %s", short(e), short(got), short(again))
		}
		var found [][2]uintptr
		for _, x := range []api.Expr{e, got, again} {
			memory(reflect.ValueOf(x), &found)
		}
		slices.SortFunc(found, func(a, b [2]uintptr) int { return int(a[0]) - int(b[0]) })
		for i := range found[1:] {
			if found[i][1] > found[i+1][0] {
				t.Fatalf("%s: memory is shared", short(e))
			}
		}
		fill(got)
		if third, _ := Core(e); !alike(third, again) || !alike(whole(e), was) {
			t.Fatalf("%s: changed", short(e))
		}
	}
}

// R4: lists that a tree that was given shares with itself are lists of their own in the answer.
func TestSharedLists(t *testing.T) {
	names, kids := []string{"x"}, []api.Expr{v("x"), v("y")}
	part := api.Expr{Kind: api.ELam, Names: names, Kids: kids[:1]}
	e := do(api.Expr{Kind: api.EBind, Names: names, Kids: kids[:1]}, part, of(api.EDos, kids...), of(api.EApp, kids...), cond(part, part, part), part)
	got, err := Core(e)
	if err != api.OK || !alike(got, trueBare(e)) {
		t.Fatalf("%s, %d", short(got), err)
	}
	var found [][2]uintptr
	memory(reflect.ValueOf(got), &found)
	memory(reflect.ValueOf(names), &found)
	memory(reflect.ValueOf(kids), &found)
	slices.SortFunc(found, func(a, b [2]uintptr) int { return int(a[0]) - int(b[0]) })
	for i := range found[1:] {
		if found[i][1] > found[i+1][0] {
			t.Fatal("memory is shared")
		}
	}
}
