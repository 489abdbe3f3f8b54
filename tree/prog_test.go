package tree

import (
	"slices"
	"strings"
	"testing"

	"dawdler/api"
)

func sig(s string, l ...api.Sig) api.Sig { return api.Sig{Name: s, Args: l} }

func fun(a, b api.Sig) api.Sig { return sig("->", a, b) }

// sigs is a written type of just one part a level.
func sigs(depth int) api.Sig {
	s := sig("a")
	for range depth - 1 {
		s = sig("List", s)
	}
	return s
}

func datas(l ...api.Data) api.Prog { return api.Prog{Datas: l} }

func defs(l ...api.Def) api.Prog { return api.Prog{Defs: l} }

// arg is a program with a written type.
func arg(l ...api.Sig) api.Prog {
	return datas(api.Data{Name: "T", Params: []string{"a"}, Forms: []api.Form{{Name: "N"}, {Name: "A", Args: l}}})
}

func checkProg(t *testing.T, p api.Prog, want bool) {
	t.Helper()
	if Prog(p) != want {
		t.Errorf("%s: %v", short(p), !want)
	}
}

// P4.1: ordinary programs, and none.
func TestProg(t *testing.T) {
	list := api.Data{Name: "List", Params: []string{"a"}, Forms: []api.Form{{Name: "N"}, {Name: "C", Args: []api.Sig{sig("a"), sig("List", sig("a"))}}}}
	f := api.Def{Name: "f", Body: lam("x", of(api.EIf, v("x"), number(1), v("f")))}
	checkProg(t, api.Prog{}, true)
	checkProg(t, api.Prog{Datas: []api.Data{}, Defs: []api.Def{}}, true)
	checkProg(t, datas(list), true)
	checkProg(t, defs(f), true)
	checkProg(t, api.Prog{Datas: []api.Data{list, list}, Defs: []api.Def{f, {Name: "main", Body: v("f")}, f}}, true)
}

// P4.1: MaxDefs, and one more, of all that there are at most so many of.
func TestMaxDefs(t *testing.T) {
	data := api.Data{Name: "T", Forms: []api.Form{{Name: "A"}}}
	def := api.Def{Name: "f", Body: v("x")}
	for _, n := range []int{39, 40, 41, 100, 100000} {
		checkProg(t, datas(slices.Repeat([]api.Data{data}, n)...), n <= 40)
		checkProg(t, defs(slices.Repeat([]api.Def{def}, n)...), n <= 40)
		checkProg(t, datas(api.Data{Name: "T", Forms: slices.Repeat([]api.Form{{Name: "A"}}, n)}), n <= 40)
		args := slices.Repeat([]api.Sig{sig("a")}, n)
		checkProg(t, arg(args...), n <= 40)
		checkProg(t, arg(sig("T", args...)), n <= 40)
		checkProg(t, arg(fun(sig("a"), sig("T", args...))), n <= 40)
	}
	checkProg(t, api.Prog{Datas: slices.Repeat([]api.Data{data}, 40), Defs: slices.Repeat([]api.Def{def}, 40)}, true)
	var params []string
	for _, c := range strings.Split("abcdefghijklmnopqrstuvwxyz", "") {
		params = append(params, c, c+"1")
	}
	checkProg(t, datas(api.Data{Name: "T", Params: params, Forms: []api.Form{{Name: "A"}}}), true)
}

// P4.1: a Data's Name, Params and Forms.
func TestDatas(t *testing.T) {
	forms := []api.Form{{Name: "A"}}
	good := api.Data{Name: "G", Forms: forms}
	for _, s := range []string{"", "t", "of", "9", "T ", "->", "+", "\xff", strings.Repeat("T", 21)} {
		checkProg(t, datas(api.Data{Name: s, Forms: forms}), false)
		checkProg(t, datas(good, api.Data{Name: s, Forms: forms}), false)
		checkProg(t, datas(api.Data{Name: "T", Forms: []api.Form{{Name: s}}}), false)
		checkProg(t, datas(api.Data{Name: "T", Forms: []api.Form{{Name: "A"}, {Name: s}, {Name: "B"}}}), false)
	}
	for _, l := range [][]string{{""}, {"A"}, {"of"}, {"a", "A"}, {"a", "a"}, {"a", "b", "a"}, {"b", "a", "a"}, {"->"}} {
		checkProg(t, datas(api.Data{Name: "T", Params: l, Forms: forms}), false)
		checkProg(t, datas(good, api.Data{Name: "T", Params: l, Forms: forms}), false)
	}
	for _, l := range [][]string{nil, {}, {"a"}, {"a", "b"}, {"b", "a", "ab"}} {
		checkProg(t, datas(api.Data{Name: "T", Params: l, Forms: forms}), true)
	}
	checkProg(t, datas(api.Data{Name: "T"}), false)
	checkProg(t, datas(good, api.Data{Name: "T", Forms: []api.Form{}}), false)
	checkProg(t, datas(api.Data{}), false)
	checkProg(t, datas(api.Data{Name: "T", Forms: []api.Form{{}}}), false)
	// Forms may be alike: who tells of them twice is not asked here.
	checkProg(t, datas(api.Data{Name: "T", Forms: []api.Form{{Name: "A"}, {Name: "A"}}}), true)
}

// P4.1: written types.
func TestSigs(t *testing.T) {
	a := sig("a")
	for _, s := range []api.Sig{a, sig("b"), sig("Int"), sig("Int", a), sig("T", a, a, a), fun(a, a), fun(fun(a, a), sig("List", fun(a, sig("Int")))), {Name: "a", Args: []api.Sig{}}} {
		checkProg(t, arg(s), true)
		checkProg(t, arg(a, s), true)
		checkProg(t, arg(sig("List", s)), true)
		checkProg(t, arg(fun(a, s)), true)
		checkProg(t, arg(fun(s, a)), true)
	}
	for _, s := range []api.Sig{{}, sig("", a), sig("", a, a), sig("a", a), sig("a", a, a), sig("->"), sig("->", a), sig("->", a, a, a), sig("-"), sig(">", a, a), sig("-> ", a, a), sig("<-", a, a), sig("of"), sig("data"), sig("9"), sig("+", a, a), sig("A b"), sig(strings.Repeat("a", 21)), sig(strings.Repeat("A", 21)), sig("\xff")} {
		checkProg(t, arg(s), false)
		checkProg(t, arg(a, s), false)
		checkProg(t, arg(s, a), false)
		checkProg(t, arg(sig("List", s)), false)
		checkProg(t, arg(fun(a, s)), false)
		checkProg(t, arg(fun(s, a)), false)
		checkProg(t, arg(fun(a, sig("T", a, a, s, a))), false)
	}
	// Types beside each other that hold one list, and differ by their Names.
	args := []api.Sig{a}
	checkProg(t, arg(api.Sig{Name: "T", Args: args}, api.Sig{Name: "U", Args: args}), true)
	checkProg(t, arg(api.Sig{Name: "T", Args: args}, api.Sig{Name: "u", Args: args}), false)
	both := []api.Sig{a, a}
	checkProg(t, arg(api.Sig{Name: "->", Args: both}, api.Sig{Name: "->", Args: both[:1]}), false)
	checkProg(t, arg(api.Sig{Name: "T", Args: both[:1]}, api.Sig{Name: "T", Args: append(both[:1:1], sig(""))}), false)
}

// P4.1: a written type's depth of MaxNest, and one more.
func TestDeepSigs(t *testing.T) {
	checkProg(t, arg(sigs(29)), true)
	checkProg(t, arg(sigs(30)), true)
	checkProg(t, arg(sigs(31)), false)
	checkProg(t, arg(sigs(1000)), false)
	checkProg(t, arg(sigs(1<<16)), false)
	checkProg(t, arg(sig("a"), sigs(30)), true)
	checkProg(t, arg(sig("a"), sigs(31)), false)
	checkProg(t, arg(fun(sig("a"), sigs(29))), true)
	checkProg(t, arg(fun(sigs(29), sigs(30))), false)
	checkProg(t, arg(fun(sigs(30), sigs(29))), false)
}

// P4.1: there is no limit to a written type's size but that of its depth, and of its Args.
func TestGreatSigs(t *testing.T) {
	row := slices.Repeat([]api.Sig{sig("a")}, 40)
	var rows []api.Sig
	for range 40 {
		rows = append(rows, sig("T", slices.Clone(row)...))
	}
	great := sig("T", rows...)
	checkProg(t, arg(great, great, great), true)
	rows[39].Args[39] = sig("")
	checkProg(t, arg(great), false)
}

// P4.1: a Def's Name and Body.
func TestDefs(t *testing.T) {
	good := api.Def{Name: "f", Body: v("x")}
	for _, s := range []string{"", "F", "of", "9", "f ", "->", "+", "\xff", strings.Repeat("f", 21)} {
		checkProg(t, defs(api.Def{Name: s, Body: v("x")}), false)
		checkProg(t, defs(good, api.Def{Name: s, Body: v("x")}), false)
	}
	for _, e := range []api.Expr{{}, v("X"), alt("A", v("x")), bind("x", v("x")), chain(31), wide(1001), app(v("x"))} {
		checkProg(t, defs(api.Def{Name: "f", Body: e}), false)
		checkProg(t, defs(good, api.Def{Name: "g", Body: e}, good), false)
	}
	for _, e := range []api.Expr{v("x"), chain(30), wide(1000), of(api.EDo, bind("x", v("y")), v("x"))} {
		checkProg(t, defs(good, api.Def{Name: "main", Body: e}, good), true)
	}
	// What is free is not asked here, and neither is a name that stands for two.
	checkProg(t, defs(good, good), true)
	checkProg(t, api.Prog{Datas: []api.Data{{Name: "T"}}, Defs: []api.Def{good}}, false)
	checkProg(t, api.Prog{Datas: []api.Data{{Name: "T", Forms: []api.Form{{Name: "A"}}}}, Defs: []api.Def{good, {}}}, false)
}
