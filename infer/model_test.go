package infer

import (
	"slices"
	"strconv"
	"testing"

	"dawdler/api"
	"dawdler/tree"
	"dawdler/ty"
)

// source makes numbers below what is asked for, the same ones in each run.
func source(seed uint64) func(int) int {
	return func(n int) int {
		seed = seed*6364136223846793005 + 1442695040888963407
		return int(seed>>33) % n
	}
}

// place is a part of a type: a hole has no name; what it is, once that is known, stands behind it.
type place struct {
	name string
	args []*place
	is   *place
}

func (p *place) end() *place {
	for p.is != nil {
		p = p.is
	}
	return p
}

// knownName is a name that a model knows, and its type, for all of some holes.
type knownName struct {
	name string
	all  []*place
	is   *place
}

// noType is what a model panics with where there is no type.
type noType struct{}

func must(ok bool) {
	if !ok {
		panic(noType{})
	}
}

// mayBe goes through all parts, one by one.
func mayBe(p *place) bool {
	left := 2000
	var down func(p *place, levels int) bool
	down = func(p *place, levels int) bool {
		p, left = p.end(), left-1
		if levels == 0 || left < 0 {
			return false
		}
		for _, arg := range p.args {
			if !down(arg, levels-1) {
				return false
			}
		}
		return true
	}
	return down(p, 60)
}

// holes are those of a type, each once.
func holes(p *place) []*place {
	var l []*place
	var down func(p *place)
	down = func(p *place) {
		p = p.end()
		if p.name == "" && !slices.Contains(l, p) {
			l = append(l, p)
		}
		for _, arg := range p.args {
			down(arg)
		}
	}
	down(p)
	return l
}

// tie makes two one, where that can be done.
func tie(a, b *place) {
	a, b = a.end(), b.end()
	switch {
	case a == b:
	case a.name == "":
		must(!slices.Contains(holes(b), a))
		a.is = b
	case b.name == "":
		tie(b, a)
	default:
		must(a.name == b.name && len(a.args) == len(b.args))
		for i := range a.args {
			tie(a.args[i], b.args[i])
		}
	}
}

// equated goes by the words: both may be, they can be made one, and what holes are then may be.
func equated(a, b *place) {
	must(mayBe(a) && mayBe(b))
	theirs := append(holes(a), holes(b)...)
	tie(a, b)
	for _, hole := range theirs {
		must(mayBe(hole))
	}
}

// copied is a type with others in the places of some holes.
func copied(p *place, by map[*place]*place) *place {
	p = p.end()
	if new := by[p]; new != nil {
		return new
	}
	if p.name == "" {
		return p
	}
	made := &place{name: p.name}
	for _, arg := range p.args {
		made.args = append(made.args, copied(arg, by))
	}
	return made
}

func arrowOf(a, b *place) *place { return &place{name: "->", args: []*place{a, b}} }

func plain(name string) *place { return &place{name: name} }

// opened is what the last one of a name is, with new holes.
func (e knowns) opened(name string) *place {
	at := len(e) - 1
	for e[at].name != name {
		at--
	}
	must(mayBe(e[at].is))
	by := map[*place]*place{}
	for _, hole := range e[at].all {
		by[hole] = &place{}
	}
	return copied(e[at].is, by)
}

type knowns []knownName

func (e knowns) with(name string, is *place, all ...*place) knowns {
	return append(slices.Clone(e), knownName{name: name, is: is, all: all})
}

// closed are the holes of a type that are free in nothing that is known.
func (e knowns) closed(is *place) []*place {
	must(mayBe(is))
	l := holes(is)
	for _, k := range e {
		must(mayBe(k.is))
		free := slices.DeleteFunc(holes(k.is), func(p *place) bool { return slices.Contains(k.all, p) })
		l = slices.DeleteFunc(l, func(p *place) bool { return slices.Contains(free, p) })
	}
	return l
}

// told is a tree's type, by the chapter's words.
func (e knowns) told(x api.Expr) *place {
	made := &place{}
	switch x.Kind {
	case api.EInt:
		made = plain("Int")
	case api.EVar, api.ECon:
		made = e.opened(x.Name)
	case api.ELam:
		of := &place{}
		made = arrowOf(of, e.with(x.Names[0], of).told(x.Kids[0]))
	case api.EApp:
		first := e.told(x.Kids[0])
		second := e.told(x.Kids[1])
		equated(first, arrowOf(second, made))
	case api.ELet:
		of := &place{}
		first := e.with(x.Names[0], of).told(x.Kids[0])
		equated(first, of)
		made = e.with(x.Names[0], of, e.closed(of)...).told(x.Kids[1])
	case api.ECase:
		of := e.told(x.Kids[0])
		for _, alt := range x.Kids[1:] {
			is, inner := e.opened(alt.Name).end(), e
			for _, name := range alt.Names {
				must(is.name == "->" && len(is.args) == 2)
				inner = inner.with(name, is.args[0])
				is = is.args[1].end()
			}
			must(is.name != "->" || len(is.args) != 2)
			equated(is, of)
			equated(inner.told(alt.Kids[0]), made)
		}
	case api.EOp:
		for _, kid := range x.Kids {
			equated(e.told(kid), plain("Int"))
		}
		made = plain(map[bool]string{false: "Int", true: "Bool"}[x.Name == "==" || x.Name == "<"])
	}
	must(mayBe(made))
	return made
}

// placed is a type as a model has it.
func placed(t api.Type, by map[int]*place) *place {
	if t.Name == "" {
		if by[t.N] == nil {
			by[t.N] = &place{}
		}
		return by[t.N]
	}
	p := plain(t.Name)
	for _, arg := range t.Args {
		p.args = append(p.args, placed(arg, by))
	}
	return p
}

// typeOf is a model's as a type, its holes numbered by their first place.
func typeOf(p *place, seen *[]*place) api.Type {
	p = p.end()
	if p.name == "" {
		if !slices.Contains(*seen, p) {
			*seen = append(*seen, p)
		}
		return h(slices.Index(*seen, p))
	}
	t := c(p.name)
	for _, arg := range p.args {
		t.Args = append(t.Args, typeOf(arg, seen))
	}
	return t
}

// trueType is the type of a tree that is bare, and whose names are assumed, by the model.
func trueType(env []api.Assume, x api.Expr) (is api.Type, err api.Errno) {
	var e knowns
	for _, a := range env {
		by := map[int]*place{}
		p := placed(a.Is.Ty, by)
		e = e.with(a.Name, p, holes(p)...)
	}
	defer func() {
		if why := recover(); why != nil {
			if _, none := why.(noType); !none {
				panic(why)
			}
			is, err = api.Type{}, api.ErrType
		}
	}()
	return typeOf(e.told(x), &[]*place{}), api.OK
}

// checkModel holds a tree's type against the model's, and tells whether it has one.
func checkModel(t *testing.T, env []api.Assume, x api.Expr) bool {
	t.Helper()
	want, wantErr := trueType(env, x)
	got, err := Type(env, x)
	if err != wantErr || !alike(got, want) {
		t.Fatalf("%s: %s, %d; want %s, %d", shortTree(x), short(got), err, short(want), wantErr)
	}
	return err == api.OK
}

// maker makes trees.
type maker struct {
	next  func(int) int
	given []string // what names may be, beside those that are bound
	cons  []api.Assume
	left  int // how many parts there may be, about
}

func lam(name string, e api.Expr) api.Expr {
	return api.Expr{Kind: api.ELam, Names: []string{name}, Kids: []api.Expr{e}}
}

func let(name string, a, b api.Expr) api.Expr {
	return api.Expr{Kind: api.ELet, Names: []string{name}, Kids: []api.Expr{a, b}}
}

func op(name string, a, b api.Expr) api.Expr {
	return api.Expr{Kind: api.EOp, Name: name, Kids: []api.Expr{a, b}}
}

func con(name string) api.Expr { return api.Expr{Kind: api.ECon, Name: name} }

func (m *maker) leaf(bound []string) api.Expr {
	switch kind := m.next(8); {
	case kind == 0:
		return api.Expr{Kind: api.EInt, Num: m.next(3)}
	case kind == 1:
		return con(m.cons[m.next(len(m.cons))].Name)
	case kind < 4 || len(bound) == 0:
		return v(m.given[m.next(len(m.given))])
	}
	return v(bound[m.next(len(bound))])
}

func (m *maker) name() string { return []string{"x", "y", "z", "f", "g"}[m.next(5)] }

// many is of how many a constructor is.
func many(t api.Type) int {
	n := 0
	for t.Name == "->" && len(t.Args) == 2 {
		t, n = t.Args[1], n+1
	}
	return n
}

// grow makes a tree whose names are bound, or given.
func (m *maker) grow(levels int, bound []string) api.Expr {
	m.left--
	if levels <= 1 || m.left < 0 || m.next(5) == 0 {
		return m.leaf(bound)
	}
	kid := func(more ...string) api.Expr { return m.grow(levels-1, slices.Concat(bound, more)) }
	switch m.next(10) {
	case 0, 1:
		name := m.name()
		return lam(name, kid(name))
	case 2, 3, 4, 5:
		return of(api.EApp, kid(), kid())
	case 6, 7:
		name := m.name()
		return let(name, kid(name), kid(name))
	case 8:
		return m.choice(kid)
	}
	return op([]string{"+", "-", "==", "<", "*", "/"}[m.next(6)], kid(), kid())
}

// choice makes a case, mostly of one type's constructors, and mostly with as many Names as these are of.
func (m *maker) choice(kid func(more ...string) api.Expr) api.Expr {
	e := of(api.ECase, kid())
	from := m.next(len(m.cons))
	for range 1 + m.next(3) {
		c := m.cons[max(0, min(len(m.cons)-1, from+m.next(2)))]
		n := many(c.Is.Ty)
		if m.next(20) == 0 {
			n = max(0, n+m.next(3)-1)
		}
		names := []string{"x", "y", "z", "f", "g"}
		at := m.next(5)
		names = slices.Concat(names[at:], names[:at])[:min(n, 5)]
		e.Kids = append(e.Kids, alt(c.Name, kid(names...), names...))
	}
	return e
}

func usualMaker(seed uint64, cons []api.Assume) *maker {
	return &maker{next: source(seed), given: []string{"fst", "snd", "k", "same", "any", "fix", "not"}, cons: cons}
}

// constructorsOf are those of what is assumed that have the name of one.
func constructorsOf(env []api.Assume) []api.Assume {
	return slices.DeleteFunc(slices.Clone(env), func(a api.Assume) bool { return a.Name[0] > 'Z' })
}

// P10.1: many trees, small ones mostly, of which many have a type.
func TestManyTrees(t *testing.T) {
	env := usual()
	m, typed, all := usualMaker(10, constructorsOf(env)), 0, 0
	for all < 30000 {
		m.left = 3 + m.next(25)
		e := m.grow(2+m.next(8), nil)
		if e.Kind == api.EVar || e.Kind == api.ECon || e.Kind == api.EInt {
			continue
		}
		all++
		if checkModel(t, env, e) {
			typed++
		}
	}
	if typed < all/5 || typed > all*4/5 {
		t.Errorf("%d of %d have a type", typed, all)
	}
}

// allTrees are all trees of just so many parts, of a few names and ways.
func allTrees(parts int, made map[int][]api.Expr) []api.Expr {
	if l, done := made[parts]; done {
		return l
	}
	l := []api.Expr{}
	if parts == 1 {
		l = []api.Expr{{Kind: api.EInt}, v("x"), v("y"), con("N")}
	}
	if parts > 1 {
		for _, e := range allTrees(parts-1, made) {
			l = append(l, lam("x", e), lam("y", e))
		}
	}
	for first := 1; first < parts-1; first++ {
		for _, a := range allTrees(first, made) {
			for _, b := range allTrees(parts-1-first, made) {
				l = append(l, of(api.EApp, a, b), let("x", a, b), let("y", a, b), op("+", a, b))
			}
			if parts-2-first < 1 {
				continue
			}
			for _, b := range allTrees(parts-2-first, made) {
				l = append(l, of(api.ECase, a, alt("N", b)), of(api.ECase, a, alt("C", b, "x", "y")), of(api.ECase, a, alt("One", b, "x")))
			}
		}
	}
	made[parts] = l
	return l
}

// P10.1: all small trees, of names that are assumed to be some things.
func TestAllSmallTrees(t *testing.T) {
	env := slices.Concat(is("x", "a -> a", "y", "P a b"), made("data L a = N | C a (L a)\ndata One a = One a"))
	typed, all, trees := 0, 0, map[int][]api.Expr{}
	for parts := 1; parts <= 6; parts++ {
		for _, e := range allTrees(parts, trees) {
			all++
			if checkModel(t, env, e) {
				typed++
			}
		}
	}
	if all < 30000 || typed < all/20 {
		t.Errorf("%d of %d have a type", typed, all)
	}
}

// aimed makes a tree that mostly has the type that is asked for, of a few types, of names that are bound to be of some of them.
func (m *maker) aimed(want string, levels int, bound map[string]string) api.Expr {
	m.left--
	if m.next(300) == 0 {
		want = []string{"Int", "Bool", "List", "Pair", "Fun"}[m.next(5)]
	}
	if levels <= 1 || m.left < 0 {
		return m.aimedLeaf(want, bound)
	}
	kid := func(want string) api.Expr { return m.aimed(want, levels-1, bound) }
	with := func(want string, l ...string) api.Expr {
		more := map[string]string{}
		for name, is := range bound {
			more[name] = is
		}
		for i := 0; i < len(l); i += 2 {
			more[l[i]] = l[i+1]
		}
		return m.aimed(want, levels-1, more)
	}
	name, other := m.name(), []string{"Int", "Bool", "List", "Pair", "Fun"}[m.next(5)]
	switch m.next(12) {
	case 0:
		return let(name, with(other, name, other), with(want, name, other))
	case 1:
		return let(name, lam("y", with(want, "y", other, name, "")), of(api.EApp, with("", name, ""), kid(other)))
	case 2:
		return of(api.EApp, lam(name, with(want, name, other)), kid(other))
	case 3:
		return of(api.ECase, kid("List"), alt("N", kid(want)), alt("C", with(want, "h", "Int", "t", "List"), "h", "t"))
	case 4:
		return of(api.ECase, kid("Pair"), alt("P", with(want, "a", "Int", "b", "Bool"), "a", "b"))
	case 5:
		return of(api.ECase, kid("Bool"), alt("True", kid(want)), alt("False", kid(want)))
	case 6:
		return of(api.EApp, of(api.EApp, v("k"), kid(want)), kid(other))
	case 7:
		return let("i", lam("q", v("q")), of(api.EApp, of(api.EApp, v("i"), v("i")), kid(want)))
	}
	return m.aimedOwn(want, kid, with)
}

// aimedOwn makes a tree by what makes things of its type.
func (m *maker) aimedOwn(want string, kid func(string) api.Expr, with func(string, ...string) api.Expr) api.Expr {
	switch want {
	case "Int":
		if m.next(3) == 0 {
			return of(api.EApp, kid("Fun"), kid("Int"))
		}
		return op([]string{"+", "-", "*", "/"}[m.next(4)], kid("Int"), kid("Int"))
	case "Bool":
		return op([]string{"==", "<"}[m.next(2)], kid("Int"), kid("Int"))
	case "List":
		return of(api.EApp, of(api.EApp, con("C"), kid("Int")), kid("List"))
	case "Pair":
		return of(api.EApp, of(api.EApp, con("P"), kid("Int")), kid("Bool"))
	}
	return lam("x", with("Int", "x", "Int"))
}

func (m *maker) aimedLeaf(want string, bound map[string]string) api.Expr {
	var l []string
	for name, is := range bound {
		if is == want {
			l = append(l, name)
		}
	}
	slices.Sort(l)
	if len(l) > 0 && m.next(4) > 0 {
		return v(l[m.next(len(l))])
	}
	switch want {
	case "Int":
		return api.Expr{Kind: api.EInt, Num: m.next(9)}
	case "Bool":
		return con("True")
	case "List":
		return con("N")
	case "Fun":
		return lam("x", v("x"))
	}
	return v("any")
}

// P10.1: many greater trees, most of which have a type.
func TestManyAimed(t *testing.T) {
	env := usual()
	m, typed := usualMaker(101, constructorsOf(env)), 0
	const all = 3000
	for range all {
		m.left = 10 + m.next(200)
		want := []string{"Int", "Bool", "List", "Pair", "Fun"}[m.next(5)]
		e := m.aimed(want, 3+m.next(12), nil)
		if !tree.Core(e) {
			t.Fatalf("%s may not be", shortTree(e))
		}
		if checkModel(t, env, e) {
			typed++
		}
	}
	if typed < all/2 || typed > all*19/20 {
		t.Errorf("%d of %d have a type", typed, all)
	}
}

// greatEnv are types that hide what they are made of, and great ones, and what makes types of others.
func greatEnv() []api.Assume {
	env := append(usual(), is("H", "a", "M", "a -> b -> c -> d -> e -> f -> (R a b)", "O", "R a b", "r", "R a b", "dup", "a -> (P a a)", "left", "a -> (P a b)", "right", "b -> (P a b)")...)
	for i, is := range []api.Type{parts(400), parts(700), parts(999), broad(600, h(0)), levels(25), levels(40), chain(29, h(0)), c("P", parts(400), h(0)), c("P", h(0), parts(1200)), c("P", h(0), chain(40, h(0)))} {
		env = append(env, forAll("b"+strconv.Itoa(i), is))
	}
	return append(env, forAll("deep", fn(h(0), chain(20, h(0)))), forAll("wide", fn(h(0), broad(150, h(0)))))
}

// term makes something of one of the names from a place on, so that hardly one comes to stand within itself.
func (m *maker) term(from int) api.Expr {
	names := []string{"a", "b", "c", "d", "e", "f"}
	some := func() api.Expr {
		if at := from + m.next(3); at < len(names) {
			return v(names[at])
		}
		return v("b" + strconv.Itoa(m.next(7)))
	}
	switch m.next(9) {
	case 0, 1:
		return of(api.EApp, of(api.EApp, con("P"), some()), some())
	case 2:
		return of(api.EApp, v([]string{"dup", "deep", "wide", "left", "right"}[m.next(5)]), some())
	case 3:
		return v("b" + strconv.Itoa(m.next(10)))
	case 4:
		return of(api.EApp, v("dup"), of(api.EApp, v("dup"), some()))
	}
	return some()
}

// row makes a tree that equates names with others, one behind the other, and tells, and closes, some.
func (m *maker) row(many int) api.Expr {
	if many == 0 {
		return api.Expr{Kind: api.EInt}
	}
	names := []string{"a", "b", "c", "d", "e", "f"}
	at := m.next(6)
	switch m.next(8) {
	case 0:
		return let("u", m.term(at), m.row(many-1))
	case 1:
		return let(names[at], m.term(at+1), m.row(many-1))
	case 2:
		return of(api.ECase, v(names[at]), alt("H", m.row(many-1)))
	case 3:
		return of(api.ECase, lam("u", v(names[at])), alt("H", m.row(many-1)))
	}
	both := of(api.ECase, con("True"), alt("True", v(names[at])), alt("False", m.term(at+1)))
	return of(api.ECase, both, alt("H", m.row(many-1)))
}

// P10.1: many trees of great types, and deep ones, so that many come to be ones that may not be.
func TestManyGreat(t *testing.T) {
	env := greatEnv()
	m, typed, great := &maker{next: source(102)}, 0, 0
	const all = 900
	for range all {
		names := []string{"a", "b", "c", "d", "e", "f"}
		e := of(api.ECase, v("r"), alt("M", m.row(2+m.next(9)), names...))
		if m.next(3) == 0 {
			e.Kids = append(e.Kids, alt("O", m.row(0)))
		}
		if checkModel(t, env, e) {
			typed++
		} else if unbounded(env, e) {
			great++
		}
	}
	if typed < all/10 || great < all/20 {
		t.Errorf("%d of %d have a type, and %d one that is too great", typed, all, great)
	}
}

// unbounded tells whether a tree has a type with less of what makes types great.
func unbounded(env []api.Assume, e api.Expr) bool {
	less := slices.Clone(env)
	for i, a := range less {
		less[i] = forAll(a.Name, cut(a.Is.Ty))
	}
	_, err := Type(less, e)
	return err == api.OK
}

// cut is a type of which long rows, and chains, have one part.
func cut(t api.Type) api.Type {
	if t.Name == "T" || t.Name == "B" {
		holes := ty.Holes(t)
		if len(holes) == 0 {
			return c(t.Name)
		}
		return c(t.Name, h(holes[0]))
	}
	args := []api.Type{}
	for _, arg := range t.Args {
		args = append(args, cut(arg))
	}
	if t.Name == "" {
		return t
	}
	return c(t.Name, args...)
}
