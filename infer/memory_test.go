package infer

import (
	"reflect"
	"slices"
	"strconv"
	"testing"
	"time"

	"dawdler/api"
)

// lists are the first and the last address of each list in a thing, its spare room too.
func lists(x reflect.Value, found *[][2]uintptr) {
	switch x.Kind() {
	case reflect.Slice:
		if x.Cap() > 0 {
			*found = append(*found, [2]uintptr{x.Pointer(), x.Pointer() + uintptr(x.Cap())*x.Type().Elem().Size()})
		}
		for i := range x.Len() {
			lists(x.Index(i), found)
		}
	case reflect.Struct:
		for i := range x.NumField() {
			lists(x.Field(i), found)
		}
	}
}

// checkApart asks that no two lists of things share memory.
func checkApart(t *testing.T, things ...any) {
	t.Helper()
	var found [][2]uintptr
	for _, x := range things {
		lists(reflect.ValueOf(x), &found)
	}
	slices.SortFunc(found, func(a, b [2]uintptr) int { return int(a[0]) - int(b[0]) })
	for i := 1; i < len(found); i++ {
		if found[i-1][1] > found[i][0] {
			t.Fatal("memory is shared")
		}
	}
}

// again is a thing of the same parts in other memory, each list with spare room that holds something; with all of it, if that is asked for.
func again(x reflect.Value, whole bool) reflect.Value {
	made := reflect.New(x.Type()).Elem()
	switch x.Kind() {
	case reflect.Slice:
		many := x.Len()
		if whole {
			many = x.Cap()
		}
		made.Set(reflect.MakeSlice(x.Type(), many, many+2))
		for i := range many {
			made.Index(i).Set(again(x.Slice(0, many).Index(i), whole))
		}
		for i := range 2 {
			fillIn(made.Slice(0, many+2).Index(many+i), i)
		}
	case reflect.Struct:
		for i := range x.NumField() {
			made.Field(i).Set(again(x.Field(i), whole))
		}
	default:
		made.Set(x)
	}
	return made
}

// fillIn gives a thing numbers and texts that nobody has.
func fillIn(x reflect.Value, n int) {
	switch x.Kind() {
	case reflect.Int:
		x.SetInt(int64(-77 - n))
	case reflect.String:
		x.SetString("spare")
	case reflect.Struct:
		for i := range x.NumField() {
			fillIn(x.Field(i), n)
		}
	}
}

func roomy[T any](x T) T { return again(reflect.ValueOf(x), false).Interface().(T) }
func whole[T any](x T) T { return again(reflect.ValueOf(x), true).Interface().(T) }

// spoil overwrites all lists of a thing, and their spare room.
func spoil(x reflect.Value) {
	switch x.Kind() {
	case reflect.Slice:
		for i := range x.Len() {
			spoil(x.Index(i))
		}
		for i := range x.Cap() {
			fillIn(x.Slice(0, x.Cap()).Index(i), i)
		}
	case reflect.Struct:
		for i := range x.NumField() {
			spoil(x.Field(i))
		}
	}
}

// given is what the call is handed in.
type given struct {
	Env []api.Assume
	E   api.Expr
}

// R4: what was given is not changed, its spare room neither; answers are memory of their own, list by list. R5: the call answers the same again.
func TestMemory(t *testing.T) {
	env := usual()
	m, lasting := usualMaker(103, constructorsOf(env)), 0
	for i := range 2000 {
		m.left = 3 + m.next(20)
		g := given{env, m.grow(2+m.next(8), nil)}
		switch {
		case i%50 == 0:
			g.Env = append(slices.Clone(env), wrongAssumes()[0])
		case i%50 == 1:
			g.Env = env[3:]
		case i%50 == 2:
			g.E = of(api.EIf, g.E, g.E, g.E)
		}
		g = roomy(g)
		was := whole(g)
		one, err := Type(g.Env, g.E)
		two, twice := Type(g.Env, g.E)
		if err != twice || !reflect.DeepEqual(one, two) {
			t.Fatalf("%s: not the same again", shortTree(g.E))
		}
		if len(one.Args) > 0 {
			lasting++
		}
		checkApart(t, g, one, two)
		spoil(reflect.ValueOf(one))
		spoil(reflect.ValueOf(two))
		if !reflect.DeepEqual(whole(g), was) {
			t.Fatalf("%s: changed", shortTree(was.E))
		}
	}
	if lasting < 250 {
		t.Errorf("%d", lasting)
	}
}

// R4: lists that what was given shares with itself are lists of their own in an answer, and so are those of a type that stands there often.
func TestSharedLists(t *testing.T) {
	args := []api.Type{h(0), c("T", c("Int")), h(0)}
	part := api.Type{Name: "Q", Args: args}
	numbers := []int{0}
	env := append(usual(), api.Assume{Name: "q", Is: api.Scheme{All: numbers, Ty: c("W", part, part, fn(part, part))}}, api.Assume{Name: "r", Is: api.Scheme{All: numbers, Ty: part}})
	kids := []api.Expr{of(api.EApp, con("P"), v("q")), v("q")}
	e := api.Expr{Kind: api.EApp, Kids: kids}
	e = let("x", e, of(api.EApp, of(api.EApp, con("P"), e), api.Expr{Kind: api.EApp, Kids: kids}))
	for _, e := range []api.Expr{e, v("q"), v("r"), bare(`\x -> P q (P q r)`), bare(`\x -> \y -> P (P x y) (k (P x y) (P (same x q) (same y x)))`), bare(`let x = q in P x x`)} {
		got, err := Type(env, e)
		if err != api.OK || len(got.Args) == 0 {
			t.Fatalf("%s: %s, %d", shortTree(e), short(got), err)
		}
		checkApart(t, args, numbers, kids, got)
	}
	if args[0].N != 0 || len(args[1].Args) != 1 || numbers[0] != 0 {
		t.Error("changed")
	}
}

// checkSoon asks that a call ends in a time in which nobody waits long.
func checkSoon(t *testing.T, env []api.Assume, e api.Expr, want api.Errno) {
	t.Helper()
	at := time.Now()
	if _, err := Type(env, e); err != want {
		t.Errorf("%s: %d; want %d", shortTree(e), err, want)
	}
	if took := time.Since(at); took > 30*time.Second {
		t.Errorf("%s took %v", shortTree(e), took)
	}
}

// sum is a tree that adds one up, so many times.
func sum(e api.Expr, many int) api.Expr {
	if many == 1 {
		return e
	}
	return op("+", sum(e, many/2), sum(e, many-many/2))
}

// R1: types with as many holes, and constructors with as many Names, as may be, and lets among them.
func TestSoon(t *testing.T) {
	row := c("R")
	for n := range 900 {
		row.Args = append(row.Args, h(n))
	}
	env := append(usual(), forAll("m", row), forAll("f", fn(row, c("Int"))), forAll("g", fn(c("R", slices.Repeat([]api.Type{h(0)}, 900)...), c("Int"))))
	checkSoon(t, env, sum(of(api.EApp, v("f"), v("m")), 120), api.OK)
	checkSoon(t, env, sum(let("u", v("m"), of(api.EApp, v("f"), v("u"))), 100), api.OK)
	checkSoon(t, env, sum(of(api.EApp, v("g"), v("m")), 120), api.OK)
	is, names := c("W", h(0)), []string{}
	for n := range 57 {
		is, names = fn(h(0), is), append(names, "x"+strconv.Itoa(n))
	}
	env = append(env, forAll("W", is), forAll("w", c("W", h(0))), forAll("b", parts(1900)))
	e := sum(let("u", api.Expr{Kind: api.EInt}, v("u")), 200)
	for range 6 {
		e = op("+", of(api.EApp, of(api.EApp, v("same"), v("x7")), v("b")), e)
		e = of(api.ECase, v("w"), alt("W", e, names...))
	}
	checkSoon(t, env, e, api.OK)
}

// P10.1: facts that are no longer needed are forgotten: each application here tells of a thousand holes that they are a great type.
func TestForgotten(t *testing.T) {
	row := c("R")
	for n := range 900 {
		row.Args = append(row.Args, h(n))
	}
	row.Args = append(row.Args, h(0))
	great := c("R", append(slices.Repeat([]api.Type{h(0)}, 900), parts(900))...)
	env := append(usual(), forAll("f", fn(row, c("Int"))), forAll("m", great))
	checkSoon(t, env, sum(of(api.EApp, v("f"), v("m")), 6), api.OK)
	maker := newTeller(map[string]api.Scheme{"f": env[len(env)-2].Is, "m": env[len(env)-1].Is})
	maker.tell(sum(of(api.EApp, v("f"), v("m")), 5))
	if len(maker.known) > 1000 || maker.none {
		t.Errorf("%d facts are left, %v", len(maker.known), maker.none)
	}
}

// R1: trees, and types, of which each list is held again and again, and very many assumptions.
func TestHostile(t *testing.T) {
	twice := v("any")
	for range 8 {
		twice = api.Expr{Kind: api.EApp, Kids: slices.Repeat([]api.Expr{twice}, 2)}
	}
	checkSoon(t, usual(), twice, api.OK)
	shared := c("T", h(0))
	for range 9 {
		shared = c("P", shared, shared)
	}
	checkSoon(t, append(usual(), forAll("x", shared)), v("x"), api.OK)
	checkSoon(t, append(usual(), forAll("x", shared)), bare(`P x x`), api.ErrType)
	many := []api.Assume{}
	for n := range 20000 {
		many = append(many, forAll("n"+strconv.Itoa(n), fn(h(n), h(n))))
	}
	checkSoon(t, many, bare(`n19999 n0`), api.OK)
	checkSoon(t, many, bare(`n20000`), api.ErrName)
	checkSoon(t, append(many, wrongAssumes()[0]), bare(`n0`), api.ErrArg)
}
