package code

import (
	"reflect"
	"slices"
	"testing"

	"dawdler/api"
)

// lists are the first and the last address of each list in a thing, its spare room too.
func lists(x reflect.Value, found *[][2]uintptr) {
	switch x.Kind() {
	case reflect.Slice:
		if x.Cap() > 0 {
			*found = append(*found, [2]uintptr{x.Pointer(), x.Pointer() + uintptr(x.Cap())*x.Type().Elem().Size()})
		}
		for i := range x.Len() {
			lists(x.Index(i), found)
		}
	case reflect.Struct:
		for i := range x.NumField() {
			lists(x.Field(i), found)
		}
	}
}

// checkApart asks that no two lists of things share memory.
func checkApart(t *testing.T, things ...any) {
	t.Helper()
	var found [][2]uintptr
	for _, x := range things {
		lists(reflect.ValueOf(x), &found)
	}
	slices.SortFunc(found, func(a, b [2]uintptr) int { return int(a[0]) - int(b[0]) })
	for i := 1; i < len(found); i++ {
		if found[i-1][1] > found[i][0] {
			t.Fatal("memory is shared")
		}
	}
}

// again is a thing of the same parts in other memory, each list with spare room that holds something; with all of it, if that is asked for.
func again(x reflect.Value, whole bool) reflect.Value {
	made := reflect.New(x.Type()).Elem()
	switch x.Kind() {
	case reflect.Slice:
		many := x.Len()
		if whole {
			many = x.Cap()
		}
		made.Set(reflect.MakeSlice(x.Type(), many, many+2))
		for i := range many {
			made.Index(i).Set(again(x.Slice(0, many).Index(i), whole))
		}
		for i := range 2 {
			fillIn(made.Slice(0, many+2).Index(many+i), i)
		}
	case reflect.Struct:
		for i := range x.NumField() {
			made.Field(i).Set(again(x.Field(i), whole))
		}
	default:
		made.Set(x)
	}
	return made
}

// fillIn gives a thing numbers and texts that nobody has.
func fillIn(x reflect.Value, n int) {
	switch x.Kind() {
	case reflect.Int:
		x.SetInt(int64(-77 - n))
	case reflect.String:
		x.SetString("spare")
	case reflect.Struct:
		for i := range x.NumField() {
			fillIn(x.Field(i), n)
		}
	}
}

func roomy[T any](x T) T { return again(reflect.ValueOf(x), false).Interface().(T) }
func whole[T any](x T) T { return again(reflect.ValueOf(x), true).Interface().(T) }

// spoil overwrites all lists of a thing, and their spare room.
func spoil(x reflect.Value) {
	switch x.Kind() {
	case reflect.Slice:
		for i := range x.Len() {
			spoil(x.Index(i))
		}
		for i := range x.Cap() {
			fillIn(x.Slice(0, x.Cap()).Index(i), i)
		}
	case reflect.Struct:
		for i := range x.NumField() {
			spoil(x.Field(i))
		}
	}
}

// R4: what was given is not changed, its spare room neither; answers are memory of their own, list by list. R5: the call answers the same again.
func TestMemory(t *testing.T) {
	m, lasting := &grower{next: source(25), wrong: 80}, 0
	for i := range 700 {
		p, _ := m.program(1+m.next(6), 20)
		if i%3 == 0 {
			spoilProg(m.next, &p)
		}
		p = roomy(p)
		was := whole(p)
		one, at, err := Prog(p)
		two, atTwo, errTwo := Prog(p)
		if at != atTwo || err != errTwo || !reflect.DeepEqual(one, two) {
			t.Fatalf("%s: not the same again", shortProg(p))
		}
		if len(one.Ops) > 50 {
			lasting++
		}
		checkApart(t, p, one, two)
		spoil(reflect.ValueOf(one))
		spoil(reflect.ValueOf(two))
		if !reflect.DeepEqual(whole(p), was) {
			t.Fatalf("%s: changed", shortProg(was))
		}
	}
	if lasting < 150 {
		t.Errorf("%d", lasting)
	}
}

// R4, R5: Check and Arity change nothing that they were given, and answer the same again.
func TestAskedMemory(t *testing.T) {
	m := &grower{next: source(26)}
	for range 300 {
		p, _ := m.program(1+m.next(3), 12)
		c, _, err := Prog(p)
		if err == api.OK && m.next(2) == 0 {
			bend(m.next, &c)
		}
		c, p = roomy(c), roomy(p)
		wasCode, wasProg := whole(c), whole(p)
		may, many := Check(c), Arity(p.Datas, "C")
		if Check(c) != may || many != 2 || Arity(p.Datas, "C") != 2 || Arity(p.Datas, "catchSTM") != 2 || Arity(p.Datas, "spare") != -1 {
			t.Fatal("not the same again")
		}
		if !reflect.DeepEqual(whole(c), wasCode) || !reflect.DeepEqual(whole(p), wasProg) {
			t.Fatal("changed")
		}
	}
}

// R4: lists that a program shares with itself are lists of their own in an answer.
func TestSharedLists(t *testing.T) {
	sig := []api.Sig{{Name: "Int"}}
	args := []api.Sig{{Name: "IO", Args: sig}, {Name: "STM", Args: sig}, {Name: "a"}}
	names, params := []string{"x"}, []string{"a"}
	forms := []api.Form{{Name: "A", Args: args}, {Name: "B", Args: args}}
	kids := []api.Expr{v("returnIO"), {Kind: api.ELam, Names: names, Kids: []api.Expr{v("x")}}}
	body := api.Expr{Kind: api.EApp, Kids: kids}
	both := api.Expr{Kind: api.ELam, Names: names, Kids: []api.Expr{of(api.EIf, con("True"), body, body)}}
	p := api.Prog{
		Datas: []api.Data{{Name: "T", Params: params, Forms: forms}},
		Defs:  []api.Def{def("f", body), def("main", body), def("g", both), def("h", both), def("i", con("B"))},
	}
	was := whole(p)
	got, _ := checkModel(t, p)
	if len(got.Defs) != 5 {
		t.Fatalf("%v", got.Defs)
	}
	checkApart(t, got)
	checkApart(t, sig, names, params, got)
	spoil(reflect.ValueOf(got))
	if !reflect.DeepEqual(whole(p), was) {
		t.Error("changed")
	}
	checkModel(t, p)
}

// R1: trees, and codes, of which lists are held again and again.
func TestHostile(t *testing.T) {
	twice := v("f")
	for range 8 {
		twice = api.Expr{Kind: api.EApp, Kids: slices.Repeat([]api.Expr{twice}, 2)}
	}
	checkWrong(t, withMain(def("f", twice)), 0, api.ErrType)
	for range 40 {
		twice = api.Expr{Kind: api.EApp, Kids: slices.Repeat([]api.Expr{twice}, 2)}
	}
	checkWrong(t, withMain(def("f", twice)), -1, api.ErrTree)
	endless := api.Expr{Kind: api.ELam, Names: []string{"x"}, Kids: make([]api.Expr, 1)}
	endless.Kids[0] = endless
	endless.Kids[0].Kids = endless.Kids
	checkWrong(t, withMain(def("f", endless)), -1, api.ErrTree)
	sigs := make([]api.Sig, 1)
	sigs[0] = api.Sig{Name: "IO", Args: sigs}
	datas := []api.Data{{Name: "T", Forms: []api.Form{{Name: "A", Args: sigs}}}}
	checkWrong(t, api.Prog{Datas: datas, Defs: []api.Def{mainDef()}}, -1, api.ErrTree)
	if got := Arity(datas, "A"); got != 1 {
		t.Errorf("%d", got)
	}
	places := slices.Repeat([]int{0}, 1000)
	ops := slices.Repeat([]api.Op{{Kind: api.OInt, Caps: places, Ways: make([]api.Way, 1000)}}, 1000)
	ops[0].Ways = nil
	if !Check(api.Code{Ops: ops, Defs: places}) {
		t.Error("it may be")
	}
	places[999] = -1
	if Check(api.Code{Ops: ops}) {
		t.Error("it may not be")
	}
}
