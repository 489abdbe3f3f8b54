package ty

import (
	"math"
	"reflect"
	"slices"
	"strconv"
	"strings"
	"testing"

	"dawdler/api"
)

// source makes numbers below what is asked for, the same ones in each run.
func source(seed uint64) func(int) int {
	return func(n int) int {
		seed = seed*6364136223846793005 + 1442695040888963407
		return int(seed>>33) % n
	}
}

func depth(t api.Type) int {
	most := 0
	for _, arg := range t.Args {
		most = max(most, depth(arg))
	}
	return most + 1
}

func size(t api.Type) int {
	all := 1
	for _, arg := range t.Args {
		all += size(arg)
	}
	return all
}

// parts are all of a type's, it first, and its Args' in order.
func parts(t api.Type) []api.Type {
	l := []api.Type{t}
	for _, arg := range t.Args {
		l = append(l, parts(arg)...)
	}
	return l
}

// mayBe goes by the chapter's words.
func mayBe(t api.Type) bool {
	wrong := slices.ContainsFunc(parts(t), func(t api.Type) bool {
		isHole := t.Name == "" && t.N >= 0 && len(t.Args) == 0
		isOther := len(t.Name) >= 1 && len(t.Name) <= 20 && t.N == 0
		return !isHole && !isOther
	})
	return !wrong && depth(t) <= 60 && size(t) <= 2000
}

// first are the numbers of holes, each once.
func first(types ...api.Type) []int {
	var l []int
	for _, t := range types {
		for _, part := range parts(t) {
			if part.Name == "" && !slices.Contains(l, part.N) {
				l = append(l, part.N)
			}
		}
	}
	return l
}

// put is a type with what stands for one hole in its place.
func put(t api.Type, n int, by api.Type) api.Type {
	if t.Name == "" {
		if t.N == n {
			return by
		}
		return t
	}
	args := []api.Type{}
	for _, arg := range t.Args {
		args = append(args, put(arg, n, by))
	}
	return c(t.Name, args...)
}

// differ are the first two parts, at the same place, that are not the same, and whether there are such.
func differ(a, b api.Type) (api.Type, api.Type, bool) {
	if a.Name != b.Name || a.N != b.N || len(a.Args) != len(b.Args) {
		return a, b, true
	}
	for i := range a.Args {
		if x, y, two := differ(a.Args[i], b.Args[i]); two {
			return x, y, true
		}
	}
	return a, b, false
}

// trueFacts makes two types one by putting, again and again, what the first hole that differs is in all places: of the two, and of all that was told so far. Of two holes the greater one is the lesser one, so that none has to be turned round.
func trueFacts(a, b api.Type) ([]api.Fact, bool) {
	var told []api.Fact
	for {
		x, y, two := differ(a, b)
		if !two {
			break
		}
		if x.Name != "" || y.Name == "" && y.N > x.N {
			x, y = y, x
		}
		if x.Name != "" || slices.Contains(first(y), x.N) {
			return nil, false
		}
		a, b = put(a, x.N, y), put(b, x.N, y)
		for i := range told {
			told[i].Ty = put(told[i].Ty, x.N, y)
		}
		told = append(told, is(x.N, y))
		if size(a)+size(b) > 1<<20 {
			return nil, false
		}
	}
	for _, f := range told {
		if !mayBe(f.Ty) {
			return nil, false
		}
	}
	slices.SortFunc(told, func(f, g api.Fact) int { return f.N - g.N })
	return told, true
}

// checkModel holds what makes two types one against the model, and tells whether they can be.
func checkModel(t *testing.T, a, b api.Type) bool {
	t.Helper()
	if !mayBe(a) || !mayBe(b) {
		checkNone(t, a, b)
		return false
	}
	want, can := trueFacts(a, b)
	if can {
		checkFacts(t, a, b, want...)
	} else {
		checkNone(t, a, b)
	}
	return can
}

// grow makes a type that is sound, of a few Names and holes, no deeper than asked, and hardly of more parts than are left.
func grow(next func(int) int, levels int, left *int, most int) api.Type {
	*left--
	if levels <= 1 || *left < 0 || next(3) == 0 {
		return []api.Type{h(next(most)), h(next(most)), h(next(most)), c("A"), c("B")}[next(5)]
	}
	kind := []struct {
		name string
		many int
	}{{"->", 2}, {"->", 2}, {"P", 2}, {"P", 2}, {"T", 1}, {"Q", 3}, {"->", 1}}[next(7)]
	t := api.Type{Name: kind.name}
	for range kind.many {
		t.Args = append(t.Args, grow(next, levels-1, left, most))
	}
	return t
}

func grown(next func(int) int, levels, parts, most int) api.Type {
	left := next(parts) + 1
	return grow(next, 1+next(levels), &left, 1+next(most))
}

// P8.3, P8.5: many types that have hardly to do with each other.
func TestManyPairs(t *testing.T) {
	next, can := source(8), 0
	const many = 40000
	for range many {
		if checkModel(t, grown(next, 5, 12, 6), grown(next, 5, 12, 6)) {
			can++
		}
	}
	if can < many/5 || can > many*4/5 {
		t.Errorf("%d of %d can be made one", can, many)
	}
}

// bent is a type with some parts turned to holes.
func bent(next func(int) int, t api.Type, most int) api.Type {
	if next(4) == 0 {
		return h(next(most))
	}
	args := []api.Type{}
	for _, arg := range t.Args {
		args = append(args, bent(next, arg, most))
	}
	t.Args = args
	return t
}

// P8.3, P8.5: many types that come from one, some of whose parts are holes in the one, and some in the other.
func TestManyLikePairs(t *testing.T) {
	next, can := source(83), 0
	const many = 40000
	for range many {
		most := 1 + next(8)
		from := grown(next, 9, 40, 6)
		a, b := bent(next, from, most), bent(next, from, most)
		if checkModel(t, a, b) {
			can++
		}
	}
	if can < many/5 || can > many*4/5 {
		t.Errorf("%d of %d can be made one", can, many)
	}
}

// P8.3: rows of holes and of types, so that much hangs on what other holes are, and facts come to be too great, or too deep.
func TestManyRows(t *testing.T) {
	next, seen := source(84), map[string]int{}
	const many = 6000
	for range many {
		a, b, long := c("R"), c("R"), 2+next(14)
		for i := range long {
			n := i
			if next(6) == 0 {
				n = next(long)
			}
			is := grown(next, 4, 8, 1)
			if next(8) == 0 {
				is = chain(next(30), is)
			}
			// Holes from the next one on, so that most do not stand within themselves.
			for _, at := range first(is) {
				is = put(is, at, h(100+min(long+2, n+1+next(3))))
			}
			x, y := h(100+n), is
			if next(2) == 0 {
				x, y = y, x
			}
			a.Args, b.Args = append(a.Args, x), append(b.Args, y)
		}
		if _, err := Unify(a, b); err == api.OK {
			seen["one"]++
		}
		if mayBe(a) && mayBe(b) {
			seen["may be"]++
		}
		checkModel(t, a, b)
	}
	if seen["one"] < many/10 || seen["may be"]-seen["one"] < many/10 {
		t.Errorf("%v", seen)
	}
}

// small are all types of at most two levels, of some Names and holes.
func small(holes int) []api.Type {
	leaves := []api.Type{c("A"), c("B")}
	for n := range holes {
		leaves = append(leaves, h(n))
	}
	l := slices.Clone(leaves)
	for _, x := range leaves {
		l = append(l, c("T", x))
		for _, y := range leaves {
			l = append(l, fn(x, y))
		}
	}
	return l
}

// all puts types for all holes at once, by their numbers.
func all(t api.Type, by []api.Type) api.Type {
	if t.Name == "" {
		return by[t.N]
	}
	args := []api.Type{}
	for _, arg := range t.Args {
		args = append(args, all(arg, by))
	}
	return c(t.Name, args...)
}

// P8.5: whatever else makes two types one says at least that much: of all small types for three holes, those that make two types one are what they are by the facts, too; and if there are no facts, none makes them one.
func TestSaysAtLeast(t *testing.T) {
	ground := []api.Type{c("A"), c("B"), c("T", c("A")), c("T", c("B")), fn(c("A"), c("A")), fn(c("A"), c("B")), c("T", c("T", c("A"))), fn(c("T", c("A")), c("A")), h(0), h(1), h(2), c("T", h(0)), fn(h(1), h(0))}
	types := small(3)
	made := 0
	for _, x := range types {
		for _, y := range types {
			l, err := Unify(x, y)
			if !alike(Apply(l, x), Apply(l, y)) != (err != api.OK) {
				t.Fatalf("%s, %s: %s", short(x), short(y), shortFacts(l))
			}
			checkForm(t, l, x, y)
			for _, p := range ground {
				for _, q := range ground {
					for _, r := range ground {
						by := []api.Type{p, q, r}
						if !alike(all(x, by), all(y, by)) {
							continue
						}
						made++
						if err != api.OK {
							t.Fatalf("%s, %s can be made one", short(x), short(y))
						}
						for _, f := range l {
							if !alike(all(f.Ty, by), by[f.N]) {
								t.Fatalf("%s, %s: %s says more than is needed", short(x), short(y), shortFacts(l))
							}
						}
					}
				}
			}
		}
	}
	if made < 10000 {
		t.Errorf("%d", made)
	}
}

// checkForm asks that facts are of the types' holes, rise, and tell nothing by a hole of which there is a fact, and of a hole only what is less.
func checkForm(t *testing.T, l []api.Fact, a, b api.Type) {
	t.Helper()
	theirs, before := first(a, b), -1
	of := func(n int) bool { return slices.ContainsFunc(l, func(f api.Fact) bool { return f.N == n }) }
	for _, f := range l {
		if f.N <= before || !slices.Contains(theirs, f.N) || slices.ContainsFunc(first(f.Ty), of) || f.Ty.Name == "" && f.Ty.N >= f.N || !Check(f.Ty) {
			t.Errorf("%s, %s: %s", short(a), short(b), shortFacts(l))
		}
		before = f.N
	}
}

// P8.3: all pairs of small types, and of functions of some of them.
func TestAllSmallPairs(t *testing.T) {
	types, can := small(3), 0
	for _, x := range types {
		for _, y := range types {
			for _, d := range []api.Type{h(0), h(2), c("T", h(1)), c("A"), fn(h(2), h(0))} {
				for _, e := range []api.Type{h(1), h(3), c("A"), c("T", h(3)), fn(h(0), c("A"))} {
					if checkModel(t, fn(x, d), fn(y, e)) {
						can++
					}
				}
			}
		}
	}
	if can < 1000 {
		t.Errorf("%d", can)
	}
}

// reader reads texts of types back.
type reader struct{ left string }

func (r *reader) take(s string) bool {
	left, ok := strings.CutPrefix(r.left, s)
	if ok {
		r.left = left
	}
	return ok
}

func (r *reader) atom() api.Type {
	if r.take("(") {
		t := r.whole()
		if !r.take(")") {
			panic("no ) at " + r.left)
		}
		return t
	}
	if r.take("->") {
		return c("->")
	}
	end := strings.IndexAny(r.left+" ", " ()")
	word := r.left[:end]
	r.left = r.left[end:]
	if n, err := strconv.Atoi(strings.TrimPrefix(word, "t")); len(word) > 1 && err == nil {
		return h(n)
	}
	if len(word) == 1 && word >= "a" && word <= "z" {
		return h(int(word[0] - 'a'))
	}
	return c(word)
}

func (r *reader) whole() api.Type {
	ahead := r.atom()
	if r.take(" -> ") {
		return fn(ahead, r.atom())
	}
	for r.take(" ") {
		ahead.Args = append(ahead.Args, r.atom())
	}
	return ahead
}

// P8.1, P8.2, P8.4: many types, most of which may be: what is told of them by words, and texts that can be read back.
func TestManyTypes(t *testing.T) {
	next := source(81)
	for range 20000 {
		x := grown(next, 12, 60, 40)
		checkTold(t, x)
		r := reader{Text(x)}
		if back := r.whole(); r.left != "" || !alike(back, x) {
			t.Fatalf("%s: %q", short(x), Text(x))
		}
		var l []api.Fact
		for range next(8) {
			l = append(l, is(next(30), grown(next, 4, 6, 40)))
		}
		if got, want := Apply(l, x), trueApply(l, x); !alike(got, want) {
			t.Fatalf("%s, %s: %s; want %s", shortFacts(l), short(x), short(got), short(want))
		}
	}
}

// trueApply puts, for each hole's place, from numbers that nobody has, so that nothing is gone through again.
func trueApply(l []api.Fact, t api.Type) api.Type {
	const far = 1 << 40
	for _, n := range first(t) {
		t = put(t, n, h(far+n))
	}
	for _, f := range l {
		t = put(t, far+f.N, f.Ty)
	}
	for _, n := range first(t) {
		if n >= far {
			t = put(t, n, h(n-far))
		}
	}
	return t
}

// checkTold holds Check, Holes and Canon against the chapter's words.
func checkTold(t *testing.T, x api.Type) bool {
	t.Helper()
	if !mayBe(x) {
		checkNothing(t, x)
		return false
	}
	want, canon := first(x), x
	if !Check(x) || !slices.Equal(Holes(x), want) || Text(x) == "" {
		t.Fatalf("%s: %v, %v, %q; want %v", short(x), Check(x), Holes(x), Text(x), want)
	}
	for place, n := range want {
		canon = put(canon, n, h(1<<40+place))
	}
	for place := range want {
		canon = put(canon, 1<<40+place, h(place))
	}
	if got := Canon(x); !alike(got, canon) {
		t.Fatalf("%s: %s; want %s", short(x), short(got), short(canon))
	}
	return true
}

// spoil changes one thing in a type: its Name, its N or its Args, or those of one below.
func spoil(next func(int) int, t api.Type) api.Type {
	t.Args = slices.Clone(t.Args)
	if len(t.Args) > 0 && next(4) > 0 {
		at := next(len(t.Args))
		t.Args[at] = spoil(next, t.Args[at])
		return t
	}
	switch next(4) {
	case 0:
		t.Name = []string{"", "x", name(20), name(21), "->"}[next(5)]
	case 1:
		t.N = []int{0, 1, -1, math.MaxInt, math.MinInt}[next(5)]
	case 2:
		t.Args = slices.Repeat([]api.Type{h(0)}, next(3))
	case 3:
		t = chain(next(70), t)
	}
	return t
}

// P8.1: many types with one thing changed, so that many may not be.
func TestManyWrong(t *testing.T) {
	next, may := source(82), 0
	const many = 20000
	for range many {
		if checkTold(t, spoil(next, grown(next, 8, 30, 40))) {
			may++
		}
	}
	if may < many/5 || may > many*4/5 {
		t.Errorf("%d of %d may be", may, many)
	}
}

// memory are the first and the last address of each list in a thing, its spare room too.
func memory(x reflect.Value, found *[][2]uintptr) {
	switch x.Kind() {
	case reflect.Slice:
		if x.Cap() > 0 {
			*found = append(*found, [2]uintptr{x.Pointer(), x.Pointer() + uintptr(x.Cap())*x.Type().Elem().Size()})
		}
		for i := range x.Len() {
			memory(x.Index(i), found)
		}
	case reflect.Struct:
		for i := range x.NumField() {
			memory(x.Field(i), found)
		}
	}
}

// checkApart asks that no two lists of things share memory.
func checkApart(t *testing.T, things ...any) {
	t.Helper()
	var found [][2]uintptr
	for _, x := range things {
		memory(reflect.ValueOf(x), &found)
	}
	slices.SortFunc(found, func(a, b [2]uintptr) int { return int(a[0]) - int(b[0]) })
	for i := 1; i < len(found); i++ {
		if found[i-1][1] > found[i][0] {
			t.Fatal("memory is shared")
		}
	}
}

// roomy is a type of the same parts, each list with spare room behind it.
func roomy(t api.Type) api.Type {
	args := []api.Type{}
	for _, arg := range t.Args {
		args = append(args, roomy(arg))
	}
	args = append(args, c("spare"), h(77))
	t.Args = args[:len(t.Args)]
	return t
}

// whole is a type with its spare room, in other memory.
func whole(t api.Type) api.Type {
	args := []api.Type{}
	for _, arg := range t.Args[:cap(t.Args)] {
		args = append(args, whole(arg))
	}
	t.Args = args
	return t
}

// fill overwrites all lists of a type, and their spare room.
func fill(t api.Type) {
	for _, arg := range t.Args {
		fill(arg)
	}
	for i := range t.Args[:cap(t.Args)] {
		t.Args[:cap(t.Args)][i] = api.Type{N: -9}
	}
}

// R4: what was given is not changed, its spare room neither; answers are memory of their own, list by list. R5: a call answers the same again.
func TestMemory(t *testing.T) {
	next, facts := source(85), 0
	for range 3000 {
		from := grown(next, 7, 40, 6)
		a, b := roomy(bent(next, from, 6)), roomy(bent(next, from, 6))
		given := []api.Fact{is(0, roomy(grown(next, 3, 5, 4))), is(1, roomy(grown(next, 3, 5, 4))), is(0, b), is(77, a)}[:3]
		was := []api.Type{whole(a), whole(b), whole(given[0].Ty), whole(given[1].Ty), whole(given[:4][3].Ty)}
		var answers []any
		for range 2 {
			l, err := Unify(a, b)
			if err != api.OK {
				l = nil
			}
			facts += len(l)
			answers = append(answers, l, Holes(a), Canon(a), Apply(given, a), Apply(nil, a), Apply(l, b))
		}
		if !reflect.DeepEqual(answers[:6], answers[6:]) {
			t.Fatalf("%s, %s: not the same again", short(a), short(b))
		}
		checkApart(t, append([]any{a, b, given[0].Ty, given[1].Ty}, answers...)...)
		for _, x := range answers {
			switch x := x.(type) {
			case api.Type:
				fill(x)
			case []api.Fact:
				for _, f := range x {
					fill(f.Ty)
				}
				clear(x[:cap(x)])
			case []int:
				clear(x[:cap(x)])
			}
		}
		now := []api.Type{whole(a), whole(b), whole(given[0].Ty), whole(given[1].Ty), whole(given[:4][3].Ty)}
		if !slices.EqualFunc(was, now, alike) || given[0].N != 0 || given[1].N != 1 || given[2].N != 0 || given[:4][3].N != 77 {
			t.Fatalf("%s, %s: changed", short(a), short(b))
		}
	}
	if facts < 3000 {
		t.Errorf("%d facts", facts)
	}
}

// R4: lists that what was given shares with itself are lists of their own in answers, and a fact that stands in several places is one in each.
func TestSharedLists(t *testing.T) {
	args := []api.Type{h(0), c("T", h(1)), h(0)}
	part := api.Type{Name: "Q", Args: args}
	x := c("P", part, part, api.Type{Name: "Q", Args: args[:2]}, fn(part, h(2)))
	facts := []api.Fact{is(0, part), is(1, part), is(2, c("T", part))}
	checkApart(t, args, Canon(x), Apply(nil, x), Apply(facts, x), Holes(x))
	y := c("P", h(3), h(4), h(5), fn(h(3), h(6)))
	l, err := Unify(x, y)
	if err != api.OK || len(l) != 4 {
		t.Fatalf("%s, %d", shortFacts(l), err)
	}
	checkApart(t, args, l)
	l, err = Unify(c("P", h(3), h(4), h(5)), c("P", h(4), h(5), c("T", part, h(7), part)))
	if err != api.OK || len(l) != 3 {
		t.Fatalf("%s, %d", shortFacts(l), err)
	}
	checkApart(t, args, l)
}
