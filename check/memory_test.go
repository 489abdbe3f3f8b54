package check

import (
	"reflect"
	"slices"
	"testing"

	"dawdler/api"
)

// lists are the first and the last address of each list in a thing, its spare room too.
func lists(x reflect.Value, found *[][2]uintptr) {
	switch x.Kind() {
	case reflect.Slice:
		if x.Cap() > 0 {
			*found = append(*found, [2]uintptr{x.Pointer(), x.Pointer() + uintptr(x.Cap())*x.Type().Elem().Size()})
		}
		for i := range x.Len() {
			lists(x.Index(i), found)
		}
	case reflect.Struct:
		for i := range x.NumField() {
			lists(x.Field(i), found)
		}
	}
}

// checkApart asks that no two lists of things share memory.
func checkApart(t *testing.T, things ...any) {
	t.Helper()
	var found [][2]uintptr
	for _, x := range things {
		lists(reflect.ValueOf(x), &found)
	}
	slices.SortFunc(found, func(a, b [2]uintptr) int { return int(a[0]) - int(b[0]) })
	for i := 1; i < len(found); i++ {
		if found[i-1][1] > found[i][0] {
			t.Fatal("memory is shared")
		}
	}
}

// again is a thing of the same parts in other memory, each list with spare room that holds something; with all of it, if that is asked for.
func again(x reflect.Value, whole bool) reflect.Value {
	made := reflect.New(x.Type()).Elem()
	switch x.Kind() {
	case reflect.Slice:
		many := x.Len()
		if whole {
			many = x.Cap()
		}
		made.Set(reflect.MakeSlice(x.Type(), many, many+2))
		for i := range many {
			made.Index(i).Set(again(x.Slice(0, many).Index(i), whole))
		}
		for i := range 2 {
			fillIn(made.Slice(0, many+2).Index(many+i), i)
		}
	case reflect.Struct:
		for i := range x.NumField() {
			made.Field(i).Set(again(x.Field(i), whole))
		}
	default:
		made.Set(x)
	}
	return made
}

// fillIn gives a thing numbers and texts that nobody has.
func fillIn(x reflect.Value, n int) {
	switch x.Kind() {
	case reflect.Int:
		x.SetInt(int64(-77 - n))
	case reflect.String:
		x.SetString("spare")
	case reflect.Struct:
		for i := range x.NumField() {
			fillIn(x.Field(i), n)
		}
	}
}

func roomy[T any](x T) T { return again(reflect.ValueOf(x), false).Interface().(T) }
func whole[T any](x T) T { return again(reflect.ValueOf(x), true).Interface().(T) }

// spoil overwrites all lists of a thing, and their spare room.
func spoil(x reflect.Value) {
	switch x.Kind() {
	case reflect.Slice:
		for i := range x.Len() {
			spoil(x.Index(i))
		}
		for i := range x.Cap() {
			fillIn(x.Slice(0, x.Cap()).Index(i), i)
		}
	case reflect.Struct:
		for i := range x.NumField() {
			spoil(x.Field(i))
		}
	}
}

// R4: what was given is not changed, its spare room neither; answers are memory of their own, list by list. R5: the call answers the same again.
func TestMemory(t *testing.T) {
	m, lasting := &maker{next: source(15), wrong: 60}, 0
	for i := range 1000 {
		p, _ := m.program(1+m.next(6), 15)
		if i%2 == 0 {
			spoilProg(m.next, &p)
		}
		p = roomy(p)
		was := whole(p)
		one, at, err := Prog(p)
		two, atTwo, errTwo := Prog(p)
		if at != atTwo || err != errTwo || !reflect.DeepEqual(one, two) {
			t.Fatalf("%s: not the same again", shortProg(p))
		}
		if len(one) > 4 {
			lasting++
		}
		checkApart(t, p, one, two)
		spoil(reflect.ValueOf(one))
		spoil(reflect.ValueOf(two))
		if !reflect.DeepEqual(whole(p), was) {
			t.Fatalf("%s: changed", shortProg(was))
		}
	}
	if lasting < 250 {
		t.Errorf("%d", lasting)
	}
	TestGiven(t)
}

// P11.1, R4: what is given is memory of its own, list by list, in each answer.
func TestGivenMemory(t *testing.T) {
	one, two := Given(), Given()
	checkApart(t, one, two)
	spoil(reflect.ValueOf(one))
	if !slices.EqualFunc(two, trueGiven(), sameAssume) || !slices.EqualFunc(Given(), trueGiven(), sameAssume) {
		t.Error("changed")
	}
}

// R4: lists that a program shares with itself, and types that several Defs have, are lists of their own in an answer.
func TestSharedLists(t *testing.T) {
	sig := []api.Sig{{Name: "Int"}}
	args := []api.Sig{{Name: "IO", Args: sig}, {Name: "STM", Args: sig}, {Name: "a"}}
	names, params := []string{"x"}, []string{"a"}
	forms := []api.Form{{Name: "A", Args: args}, {Name: "B", Args: args}}
	kids := []api.Expr{{Kind: api.EVar, Name: "returnIO"}, {Kind: api.ELam, Names: names, Kids: []api.Expr{{Kind: api.EVar, Name: "x"}}}}
	body := api.Expr{Kind: api.EApp, Kids: kids}
	p := api.Prog{
		Datas: []api.Data{{Name: "T", Params: params, Forms: forms}},
		Defs:  []api.Def{def("f", body), def("main", body), def("g", v("f")), def("h", con("A")), def("i", con("B"))},
	}
	was := whole(p)
	got, at, err := Prog(p)
	if at != -1 || err != api.OK || len(got) != 5 {
		t.Fatalf("%d, %d, %d", len(got), at, err)
	}
	checkApart(t, got)
	checkApart(t, sig, names, params, got)
	spoil(reflect.ValueOf(got))
	if !reflect.DeepEqual(whole(p), was) {
		t.Error("changed")
	}
}

// R1: trees of which each list is held again and again.
func TestHostile(t *testing.T) {
	twice := v("f")
	for range 8 {
		twice = api.Expr{Kind: api.EApp, Kids: slices.Repeat([]api.Expr{twice}, 2)}
	}
	checkWrong(t, withMain(def("f", twice)), 0, api.ErrType)
	for range 40 {
		twice = api.Expr{Kind: api.EApp, Kids: slices.Repeat([]api.Expr{twice}, 2)}
	}
	checkWrong(t, withMain(def("f", twice)), -1, api.ErrTree)
	endless := api.Expr{Kind: api.ELam, Names: []string{"x"}, Kids: make([]api.Expr, 1)}
	endless.Kids[0] = endless
	endless.Kids[0].Kids = endless.Kids
	checkWrong(t, withMain(def("f", endless)), -1, api.ErrTree)
	sigs := make([]api.Sig, 1)
	sigs[0] = api.Sig{Name: "IO", Args: sigs}
	checkWrong(t, api.Prog{Datas: []api.Data{data("T", "A", sigs...)}, Defs: []api.Def{mainDef()}}, -1, api.ErrTree)
}
