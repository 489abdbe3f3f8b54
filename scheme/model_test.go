package scheme

import (
	"math"
	"reflect"
	"slices"
	"testing"

	"dawdler/api"
	"dawdler/tree"
	"dawdler/ty"
)

// source makes numbers below what is asked for, the same ones in each run.
func source(seed uint64) func(int) int {
	return func(n int) int {
		seed = seed*6364136223846793005 + 1442695040888963407
		return int(seed>>33) % n
	}
}

// first are the numbers of a type's holes, each once, by their first place.
func first(t api.Type) []int {
	if t.Name == "" {
		return []int{t.N}
	}
	var l []int
	for _, arg := range t.Args {
		for _, n := range first(arg) {
			if !slices.Contains(l, n) {
				l = append(l, n)
			}
		}
	}
	return l
}

func without(l, out []int) []int {
	return slices.DeleteFunc(slices.Clone(l), func(n int) bool { return slices.Contains(out, n) })
}

// mayBe goes by the chapter's words.
func mayBe(s api.Scheme) bool {
	if !ty.Check(s.Ty) {
		return false
	}
	for i, n := range s.All {
		if slices.Contains(s.All[:i], n) || !slices.Contains(first(s.Ty), n) {
			return false
		}
	}
	return true
}

// turned is a type with each hole's number told by its own.
func turned(t api.Type, told func(int) int) api.Type {
	if t.Name == "" {
		return h(told(t.N))
	}
	args := []api.Type{}
	for _, arg := range t.Args {
		args = append(args, turned(arg, told))
	}
	return c(t.Name, args...)
}

// grown makes a type, mostly one that may be, of a few Names, and holes of which many are there again.
func grown(next func(int) int, levels int) api.Type {
	if levels <= 1 || next(4) == 0 {
		return []api.Type{h(next(6)), h(next(6)), h(next(6)), h(next(40)), c("A"), c("B")}[next(6)]
	}
	if next(200) == 0 {
		return wrongTypes()[next(6)]
	}
	t := api.Type{Name: []string{"T", "->", "Q"}[next(3)]}
	for range 1 + next(3) {
		t.Args = append(t.Args, grown(next, levels-1))
	}
	return t
}

// of makes a scheme of a type, mostly one that may be: for some of its holes, in any order.
func of(next func(int) int, t api.Type) api.Scheme {
	l := []int{}
	if ty.Check(t) {
		l = first(t)
	}
	for i := range l {
		j := i + next(len(l)-i)
		l[i], l[j] = l[j], l[i]
	}
	l = l[:next(len(l)+1)]
	if next(10) == 0 {
		l = append(l, next(8)-1)
	}
	if next(20) == 0 && len(l) > 0 {
		l = append(l, l[next(len(l))])
	}
	return api.Scheme{All: l, Ty: t}
}

// P9.1, P9.2: many schemes, opened from anywhere, against the chapter's words.
func TestManySchemes(t *testing.T) {
	next, may := source(9), 0
	const many = 15000
	nexts := []int{0, 1, 2, 3, 5, 40, 1<<31 - 1, 1<<31 - 2, -1, 1 << 31, math.MinInt, math.MaxInt}
	for range many {
		s, from := of(next, grown(next, 1+next(5))), nexts[next(len(nexts))]
		if !mayBe(s) {
			checkNoScheme(t, s)
			continue
		}
		may++
		checkScheme(t, s, without(first(s.Ty), s.All)...)
		if from < 0 || from > 1<<31-1 {
			checkNotOpened(t, s, from)
			continue
		}
		checkOpened(t, s, from, turned(s.Ty, func(n int) int {
			if i := slices.Index(s.All, n); i >= 0 {
				return from + i
			}
			return n
		}))
	}
	if may < many/2 || may > many*9/10 {
		t.Errorf("%d of %d may be", may, many)
	}
}

// P9.2, P9.4: many types, closed beside several schemes, or none, against the chapter's words.
func TestManyClosed(t *testing.T) {
	next, closed := source(92), 0
	const many = 15000
	for range many {
		x := grown(next, 1+next(5))
		may, out := ty.Check(x), []int{}
		var beside []api.Scheme
		for range next(5) {
			s := of(next, grown(next, 1+next(3)))
			may = may && mayBe(s)
			if mayBe(s) {
				out = append(out, without(first(s.Ty), s.All)...)
			}
			beside = append(beside, s)
		}
		if !may {
			checkNotClosed(t, x, beside...)
			continue
		}
		closed++
		checkClosed(t, all(x, without(first(x), out)...), beside...)
		checkSameAgain(t, x, next(50))
	}
	if closed < many/4 || closed > many*9/10 {
		t.Errorf("%d of %d may be", closed, many)
	}
}

// makeSig makes a written type of a few names, with as many Args as they are of, mostly; now and then with another name.
func makeSig(next func(int) int, levels, oddly int, names map[string]int) api.Sig {
	texts := []string{"a", "b", "a", "Int", "T", "U", "->", "IO", "TVar", "V", "b"}
	s := texts[next(len(texts))]
	if levels <= 1 {
		s = texts[next(4)]
	}
	if next(oddly) == 0 {
		s = []string{"c", "W", "STM", "Unit", "Bool", "A"}[next(6)]
	}
	many := names[s]
	if next(oddly) == 0 && s != "->" {
		many = next(3)
	}
	made := sig(s)
	for range many {
		made.Args = append(made.Args, makeSig(next, levels-1, oddly, names))
	}
	return made
}

// makeDatas makes a few Datas, of which, mostly, assumptions are made.
func makeDatas(next func(int) int) []api.Data {
	names := map[string]int{"->": 2, "IO": 1, "TVar": 1, "STM": 1}
	all := []string{"T", "U", "V"}[:1+next(3)]
	if next(2) == 0 {
		all = []string{"T", "U", "V"}
	}
	lists := [][]string{nil, {"a"}, {"b"}, {"a", "b"}, {"b", "a"}, {"a", "b"}, {"b", "x", "a"}}
	var l []api.Data
	for _, s := range all {
		l = append(l, data(s, slices.Clone(lists[3+next(4)])))
		if next(12) == 0 {
			l[len(l)-1].Params = slices.Clone(lists[next(len(lists))])
		}
		names[s] = len(l[len(l)-1].Params)
	}
	at := 0
	for i := range l {
		for range 1 + next(3) {
			f := form("C" + string(rune('a'+at)))
			at++
			for range next(4) {
				f.Args = append(f.Args, makeSig(next, 1+next(4), 60, names))
			}
			l[i].Forms = append(l[i].Forms, f)
		}
	}
	for i := range l {
		if next(60) == 0 {
			l[i].Name = []string{"T", "Int", "IO", "->", "t"}[next(5)]
		}
		if next(60) == 0 {
			l[i].Forms[0].Name = []string{"Ca", "Cb", "True", "Unit", "C"}[next(5)]
		}
	}
	return l
}

// args is of how many a name is, by the chapter's list of given types, and by Datas; -1 of none.
func args(l []api.Data, s string) int {
	switch s {
	case "Int", "Bool", "Unit":
		return 0
	case "TVar", "STM", "IO":
		return 1
	case "->":
		return 2
	}
	for _, d := range l {
		if d.Name == s {
			return len(d.Params)
		}
	}
	return -1
}

// named tells whether a written type names what there is, anywhere.
func named(l []api.Data, d api.Data, s api.Sig) bool {
	if slices.Contains(d.Params, s.Name) {
		return true
	}
	return args(l, s.Name) == len(s.Args) && !slices.ContainsFunc(s.Args, func(a api.Sig) bool { return !named(l, d, a) })
}

func allNamed(l []api.Data) bool {
	var forms []string
	for i, d := range l {
		if args(nil, d.Name) >= 0 || args(l[:i], d.Name) >= 0 {
			return false
		}
		for _, f := range d.Forms {
			if slices.Contains([]string{"True", "False", "Unit"}, f.Name) || slices.Contains(forms, f.Name) || slices.ContainsFunc(f.Args, func(s api.Sig) bool { return !named(l, d, s) }) {
				return false
			}
			forms = append(forms, f.Name)
		}
	}
	return true
}

// trueType is a written type as a type, by the places of Params.
func trueType(d api.Data, s api.Sig) api.Type {
	if n := slices.Index(d.Params, s.Name); n >= 0 {
		return h(n)
	}
	t := c(s.Name)
	for _, a := range s.Args {
		t.Args = append(t.Args, trueType(d, a))
	}
	return t
}

// formType is what a constructor is, of the Args that are left.
func formType(d api.Data, left []api.Sig) api.Type {
	if len(left) > 0 {
		return fn(trueType(d, left[0]), formType(d, left[1:]))
	}
	t := row(upTo(len(d.Params))...)
	t.Name = d.Name
	return t
}

func trueOf(l []api.Data) ([]api.Assume, api.Errno) {
	if !tree.Prog(api.Prog{Datas: l}) {
		return nil, api.ErrTree
	}
	if !allNamed(l) {
		return nil, api.ErrName
	}
	var told []api.Assume
	for _, d := range l {
		for _, f := range d.Forms {
			t := formType(d, f.Args)
			if !ty.Check(t) {
				return nil, api.ErrTy
			}
			told = append(told, assume(f.Name, t, upTo(len(d.Params))...))
		}
	}
	return told, api.OK
}

// P9.3: many Datas against the chapter's words.
func TestManyDatas(t *testing.T) {
	next, seen := source(93), map[api.Errno]int{}
	const many = 30000
	for range many {
		l := makeDatas(next)
		for i := range l {
			if next(100) == 0 {
				l[i].Forms[0].Args = at(40, 1+next(30))
			}
		}
		want, err := trueOf(l)
		seen[err]++
		if err == api.OK {
			checkOf(t, l, want...)
		} else {
			checkNotOf(t, err, l...)
		}
	}
	if seen[api.OK] < many/5 || seen[api.ErrName] < many/5 || seen[api.ErrTree] < many/100 || seen[api.ErrTy] < many/400 {
		t.Errorf("%v", seen)
	}
}

// lists are the first and the last address of each list in a thing, its spare room too.
func lists(x reflect.Value, found *[][2]uintptr) {
	switch x.Kind() {
	case reflect.Slice:
		if x.Cap() > 0 {
			*found = append(*found, [2]uintptr{x.Pointer(), x.Pointer() + uintptr(x.Cap())*x.Type().Elem().Size()})
		}
		for i := range x.Len() {
			lists(x.Index(i), found)
		}
	case reflect.Struct:
		for i := range x.NumField() {
			lists(x.Field(i), found)
		}
	}
}

// checkApart asks that no two lists of things share memory.
func checkApart(t *testing.T, things ...any) {
	t.Helper()
	var found [][2]uintptr
	for _, x := range things {
		lists(reflect.ValueOf(x), &found)
	}
	slices.SortFunc(found, func(a, b [2]uintptr) int { return int(a[0]) - int(b[0]) })
	for i := 1; i < len(found); i++ {
		if found[i-1][1] > found[i][0] {
			t.Fatal("memory is shared")
		}
	}
}

// again is a thing of the same parts in other memory, each list with spare room that holds something; with all of it, if that is asked for.
func again(x reflect.Value, whole bool) reflect.Value {
	made := reflect.New(x.Type()).Elem()
	switch x.Kind() {
	case reflect.Slice:
		many := x.Len()
		if whole {
			many = x.Cap()
		}
		made.Set(reflect.MakeSlice(x.Type(), many, many+2))
		for i := range many {
			made.Index(i).Set(again(x.Slice(0, many).Index(i), whole))
		}
		for i := range 2 {
			spare := made.Slice(0, many+2).Index(many + i)
			fillIn(spare, i)
		}
	case reflect.Struct:
		for i := range x.NumField() {
			made.Field(i).Set(again(x.Field(i), whole))
		}
	default:
		made.Set(x)
	}
	return made
}

// fillIn gives a thing numbers and texts that nobody has.
func fillIn(x reflect.Value, n int) {
	switch x.Kind() {
	case reflect.Int:
		x.SetInt(int64(-77 - n))
	case reflect.String:
		x.SetString("spare")
	case reflect.Struct:
		for i := range x.NumField() {
			fillIn(x.Field(i), n)
		}
	}
}

func roomy[T any](x T) T { return again(reflect.ValueOf(x), false).Interface().(T) }
func whole[T any](x T) T { return again(reflect.ValueOf(x), true).Interface().(T) }

// spoil overwrites all lists of a thing, and their spare room.
func spoil(x reflect.Value) {
	switch x.Kind() {
	case reflect.Slice:
		for i := range x.Len() {
			spoil(x.Index(i))
		}
		for i := range x.Cap() {
			fillIn(x.Slice(0, x.Cap()).Index(i), i)
		}
	case reflect.Struct:
		for i := range x.NumField() {
			spoil(x.Field(i))
		}
	}
}

// given is what all calls are handed in.
type given struct {
	T      api.Type
	S      api.Scheme
	Beside []api.Scheme
	Datas  []api.Data
}

func answers(g given) []any {
	s, e := Close(g.T, g.Beside...)
	plain, f := Close(g.T)
	x, n, i := Open(g.S, 3)
	l, j := Of(g.Datas)
	return []any{s, e, plain, f, x, n, i, l, j, Check(g.S), Free(g.S)}
}

// R4: what was given is not changed, its spare room neither; answers are memory of their own, list by list. R5: a call answers the same again.
func TestMemory(t *testing.T) {
	next, told := source(94), 0
	for range 3000 {
		x := grown(next, 1+next(5))
		g := roomy(given{x, of(next, x), []api.Scheme{of(next, grown(next, 3)), of(next, grown(next, 2))}, makeDatas(next)})
		was := whole(g)
		one, two := answers(g), answers(g)
		if !reflect.DeepEqual(one, two) {
			t.Fatalf("%v: not the same again", g)
		}
		told += len(one[7].([]api.Assume))
		checkApart(t, append([]any{g}, append(one, two...)...)...)
		for _, x := range append(one, two...) {
			spoil(reflect.ValueOf(x))
		}
		if !reflect.DeepEqual(whole(g), was) {
			t.Fatalf("%v: changed", g)
		}
	}
	if told < 3000 {
		t.Errorf("%d", told)
	}
}

// R4: lists that what was given shares with itself are lists of their own in answers.
func TestSharedLists(t *testing.T) {
	args := []api.Type{h(0), c("T", h(1)), h(0)}
	part := api.Type{Name: "Q", Args: args}
	x := c("P", part, part, api.Type{Name: "Q", Args: args[:2]}, fn(part, h(2)))
	numbers := []int{0, 2}
	s := api.Scheme{All: numbers, Ty: x}
	closed, _ := Close(x, s, s)
	opened, _, _ := Open(s, 0)
	checkApart(t, args, numbers, closed, opened, Free(s))
	sigs := []api.Sig{sig("a"), sig("IO", sig("a"))}
	both := api.Sig{Name: "->", Args: sigs}
	names := params("a", "b")
	l, err := Of([]api.Data{data("T", names, form("A", both, both), form("B", both), form("C", sigs...)), data("U", names, form("D", sigs[0], both))})
	if err != api.OK || len(l) != 4 {
		t.Fatalf("%s, %d", shortAssumes(l), err)
	}
	checkApart(t, sigs, names, l)
}
