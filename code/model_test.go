package code

import (
	"slices"
	"testing"

	"dawdler/api"
	"dawdler/check"
	"dawdler/sugar"
	"dawdler/tree"
)

// freeIn tells whether a name is free in a bare tree.
func freeIn(e api.Expr, name string) bool {
	if e.Kind == api.EVar {
		return e.Name == name
	}
	return !slices.Contains(e.Names, name) && slices.ContainsFunc(e.Kids, func(kid api.Expr) bool { return freeIn(kid, name) })
}

// trueAlong is what a tree takes along of surroundings, and its own ones, by the chapter's words.
func trueAlong(e api.Expr, around []string) (caps []int, own []string) {
	for at, name := range around {
		if freeIn(e, name) && !slices.Contains(around[at+1:], name) {
			caps, own = append(caps, at), append(own, name)
		}
	}
	return caps, own
}

// term is an operation by the chapter's words, and those that it is of, in order: its Kids, and then its Ways'.
type term struct {
	op   api.Op
	kids []term
	ways []term
}

// model makes terms of a program's trees.
type model struct{ p api.Prog }

func (m model) con(name string) term {
	return term{op: api.Op{Kind: api.OCon, Name: name, N: Arity(m.p.Datas, name)}}
}

func (m model) name(name string, around []string) term {
	def := slices.IndexFunc(m.p.Defs, func(d api.Def) bool { return d.Name == name })
	last := -1
	for at, other := range around {
		if other == name {
			last = at
		}
	}
	switch {
	case last >= 0:
		return term{op: api.Op{Kind: api.OLocal, N: last}}
	case def >= 0:
		return term{op: api.Op{Kind: api.OGlobal, N: def}}
	}
	return m.con(name)
}

func (m model) delay(e api.Expr, around []string) term {
	caps, own := trueAlong(e, around)
	return term{op: api.Op{Kind: api.ODelay, Caps: caps}, kids: []term{m.of(e, own)}}
}

func (m model) held(e api.Expr, around []string) term {
	if slices.Contains([]int{api.EInt, api.EVar, api.ECon, api.ELam}, e.Kind) {
		return m.of(e, around)
	}
	return m.delay(e, around)
}

func (m model) of(e api.Expr, around []string) term {
	switch e.Kind {
	case api.EInt:
		return term{op: api.Op{Kind: api.OInt, N: e.Num}}
	case api.EVar:
		return m.name(e.Name, around)
	case api.ECon:
		return m.con(e.Name)
	case api.ELam:
		caps, own := trueAlong(e, around)
		return term{op: api.Op{Kind: api.OLam, Caps: caps}, kids: []term{m.of(e.Kids[0], append(own, e.Names[0]))}}
	case api.EApp:
		return term{op: api.Op{Kind: api.OApp}, kids: []term{m.of(e.Kids[0], around), m.held(e.Kids[1], around)}}
	case api.ELet:
		around = slices.Concat(around, e.Names)
		return term{op: api.Op{Kind: api.OLet}, kids: []term{m.delay(e.Kids[0], around), m.of(e.Kids[1], around)}}
	case api.EOp:
		return term{op: api.Op{Kind: api.OPrim, Name: e.Name}, kids: []term{m.of(e.Kids[0], around), m.of(e.Kids[1], around)}}
	}
	is := term{op: api.Op{Kind: api.OCase}, kids: []term{m.of(e.Kids[0], around)}}
	for _, alt := range e.Kids[1:] {
		is.op.Ways = append(is.op.Ways, api.Way{Con: alt.Name, Many: len(alt.Names)})
		is.ways = append(is.ways, m.of(alt.Kids[0], slices.Concat(around, alt.Names)))
	}
	return is
}

// lay puts a term behind all that there are, once those that it is of are there, and tells its place.
func lay(is term, c *api.Code) int {
	op := is.op
	for _, kid := range is.kids {
		op.Kids = append(op.Kids, lay(kid, c))
	}
	for i, way := range is.ways {
		op.Ways[i].To = lay(way, c)
	}
	c.Ops = append(c.Ops, op)
	return len(c.Ops) - 1
}

// trueCode is the code of a program that has types, by the chapter's words.
func trueCode(p api.Prog) api.Code {
	var c api.Code
	for _, d := range p.Defs {
		e, _ := sugar.Core(d.Body)
		c.Defs = append(c.Defs, lay(model{p}.of(e, nil), &c))
	}
	return c
}

func sameOp(a, b api.Op) bool {
	return a.Kind == b.Kind && a.N == b.N && a.Name == b.Name && slices.Equal(a.Kids, b.Kids) && slices.Equal(a.Caps, b.Caps) && slices.Equal(a.Ways, b.Ways)
}

// binder is a name that was bound, and the number of the part that did it.
type binder struct {
	name string
	of   int
}

// follower holds operations against the tree that they are of: every name is what it stands for there, whatever way that goes along.
type follower struct {
	p     api.Prog
	c     api.Code
	count int
}

// bind is a new part that binds, for each of some names.
func (f *follower) bind(here []binder, env []int, names []string) ([]binder, []int) {
	here, env = slices.Clone(here), slices.Clone(env)
	for _, name := range names {
		f.count++
		here, env = append(here, binder{name, f.count}), append(env, f.count)
	}
	return here, env
}

// taken is what some places of surroundings are.
func taken(env, caps []int) []int {
	var l []int
	for _, at := range caps {
		l = append(l, env[at])
	}
	return l
}

// named tells whether an operation is what a name stands for.
func (f *follower) named(op api.Op, env []int, name string, here []binder) bool {
	for _, b := range slices.Backward(here) {
		if b.name == name {
			return op.Kind == api.OLocal && env[op.N] == b.of
		}
	}
	if op.Kind == api.OGlobal {
		return f.p.Defs[op.N].Name == name
	}
	return op.Kind == api.OCon && op.Name == name
}

// means tells whether the operation at a place does what a tree says.
func (f *follower) means(at int, env []int, e api.Expr, here []binder) bool {
	op := f.c.Ops[at]
	if op.Kind == api.ODelay {
		return f.means(op.Kids[0], taken(env, op.Caps), e, here)
	}
	switch e.Kind {
	case api.EInt:
		return op.Kind == api.OInt && op.N == e.Num
	case api.EVar, api.ECon:
		return f.named(op, env, e.Name, here)
	case api.ELam:
		here, env = f.bind(here, taken(env, op.Caps), e.Names)
		return op.Kind == api.OLam && f.means(op.Kids[0], env, e.Kids[0], here)
	case api.ELet:
		here, env = f.bind(here, env, e.Names)
		return op.Kind == api.OLet && f.means(op.Kids[0], env, e.Kids[0], here) && f.means(op.Kids[1], env, e.Kids[1], here)
	case api.EApp:
		return op.Kind == api.OApp && f.means(op.Kids[0], env, e.Kids[0], here) && f.means(op.Kids[1], env, e.Kids[1], here)
	case api.EOp:
		return op.Kind == api.OPrim && op.Name == e.Name && f.means(op.Kids[0], env, e.Kids[0], here) && f.means(op.Kids[1], env, e.Kids[1], here)
	}
	good := op.Kind == api.OCase && len(op.Ways) == len(e.Kids)-1 && f.means(op.Kids[0], env, e.Kids[0], here)
	for i, alt := range e.Kids[1:] {
		below, inner := f.bind(here, env, alt.Names)
		good = good && op.Ways[i].Con == alt.Name && op.Ways[i].Many == len(alt.Names) && f.means(op.Ways[i].To, inner, alt.Kids[0], below)
	}
	return good
}

// checkMeaning asks that a program's operations do what its trees say.
func checkMeaning(t *testing.T, p api.Prog, c api.Code) {
	t.Helper()
	for at, d := range p.Defs {
		e, _ := sugar.Core(d.Body)
		f := &follower{p: p, c: c}
		if !f.means(c.Defs[at], nil, e, nil) {
			t.Fatalf("%s: %s is something else:\n%s", shortProg(p), d.Name, cut(codeText(c)))
		}
	}
}

// checkModel holds a program's code against the model's, and tells it, and the error.
func checkModel(t *testing.T, p api.Prog) (api.Code, api.Errno) {
	t.Helper()
	_, wantAt, wantErr := check.Prog(p)
	var want api.Code
	if wantErr == api.OK {
		want = trueCode(p)
	}
	got, at, err := Prog(p)
	if at != wantAt || err != wantErr || !slices.Equal(got.Defs, want.Defs) || !slices.EqualFunc(got.Ops, want.Ops, sameOp) {
		t.Fatalf("%s: %d, %d, %v:\n%s\nwant %d, %d, %v:\n%s", shortProg(p), at, err, got.Defs, cut(codeText(got)), wantAt, wantErr, want.Defs, cut(codeText(want)))
	}
	if err == api.OK {
		checkMeaning(t, p, got)
	}
	if !Check(got) {
		t.Fatalf("%s: what it is may not be:\n%s", shortProg(p), cut(codeText(got)))
	}
	return got, err
}

// P12.2, P12.4: programs that have types, with all that there is in them.
func TestMade(t *testing.T) {
	m, done, great := &grower{next: source(21)}, 0, 0
	seen := map[int]int{}
	for done < 900 {
		p, _ := m.program(1+m.next(6), 30)
		c, err := checkModel(t, p)
		if err == api.ErrNest || err == api.ErrTree {
			great++
			continue
		}
		done++
		for _, op := range c.Ops {
			seen[op.Kind]++
		}
	}
	for kind := api.OInt; kind <= api.ODelay; kind++ {
		if seen[kind] < 500 {
			t.Errorf("kind %d was there %d times", kind, seen[kind])
		}
	}
	if great > 400 {
		t.Errorf("%d were too great", great)
	}
}

// P12.2, P12.4: programs that are wrong somewhere, or not.
func TestSpoiled(t *testing.T) {
	m := &grower{next: source(22), wrong: 40}
	seen := map[api.Errno]int{}
	for range 1800 {
		p, _ := m.program(1+m.next(6), 20)
		spoilProg(m.next, &p)
		_, err := checkModel(t, p)
		seen[err]++
	}
	for _, err := range []api.Errno{api.OK, api.ErrTree, api.ErrNest, api.ErrName, api.ErrType, api.ErrMain} {
		if seen[err] < 25 {
			t.Errorf("%d was told %d times", err, seen[err])
		}
	}
}

// P12.2: programs whose names are few, so that they hide each other all the time: those that are made, with names anew.
func TestFewNames(t *testing.T) {
	m, done := &grower{next: source(23)}, 0
	for range 3500 {
		p, _ := m.program(1+m.next(4), 16)
		for i := range p.Defs[3:] {
			fewNames(&p.Defs[3+i].Body, m.next)
		}
		if _, err := checkModel(t, p); err == api.OK {
			done++
		}
	}
	if done < 700 {
		t.Errorf("%d", done)
	}
}

// fewNames gives the names of a tree's parts, that no Def has, one of a few for each.
func fewNames(e *api.Expr, next func(int) int) {
	few := func(name string) string {
		if name[0] != 'x' || len(name) == 1 {
			return name
		}
		return []string{"x", "y", "z"}[int(name[len(name)-1])%3]
	}
	e.Names = slices.Clone(e.Names)
	for i, name := range e.Names {
		e.Names[i] = few(name)
	}
	if e.Kind == api.EVar {
		e.Name = few(e.Name)
	}
	if next(20) == 0 && e.Kind == api.EVar {
		e.Name = []string{"x", "y", "z", "print", "main"}[next(5)]
	}
	e.Kids = slices.Clone(e.Kids)
	for i := range e.Kids {
		fewNames(&e.Kids[i], next)
	}
}

// small are all trees of so many parts, of two names; by fewer parts, they are kept.
func small(parts int, kept map[int][]api.Expr) []api.Expr {
	if l, there := kept[parts]; there {
		return l
	}
	var l []api.Expr
	if parts == 1 {
		l = []api.Expr{number(7), v("x"), v("y"), con("N"), con("C")}
	}
	if parts > 1 {
		for _, kid := range small(parts-1, kept) {
			l = append(l, lam("x", kid), lam("y", kid))
		}
	}
	for ahead := 1; ahead < parts-1; ahead++ {
		for _, one := range small(ahead, kept) {
			for _, two := range small(parts-1-ahead, kept) {
				l = append(l, of(api.EApp, one, two), plus(one, two), let("x", one, two), let("y", one, two))
			}
		}
	}
	for ahead := 1; ahead < parts-2; ahead++ {
		for _, one := range small(ahead, kept) {
			for _, two := range small(parts-2-ahead, kept) {
				l = append(l, of(api.ECase, one, alt("C", two, "x", "y")), of(api.ECase, one, alt("C", two, "y", "x")))
			}
		}
	}
	kept[parts] = l
	return l
}

// closed tells whether a tree names nothing that it does not bind.
func closed(e api.Expr) bool { return !freeIn(e, "x") && !freeIn(e, "y") }

// P12.2: all small trees that have a type.
func TestSmall(t *testing.T) {
	kept, good := map[int][]api.Expr{}, 0
	p := prog("data L a = N | C a (L a)\n")
	for parts := 1; parts <= 5; parts++ {
		for _, e := range small(parts, kept) {
			if !closed(e) || !tree.Check(e) {
				continue
			}
			p.Defs = []api.Def{def("f", e), mainDef()}
			if _, err := checkModel(t, p); err == api.OK {
				good++
			}
		}
	}
	if good < 1000 {
		t.Errorf("%d have types", good)
	}
}

// trueCheck tells whether operations may be, by the chapter's words.
func trueCheck(c api.Code) bool {
	many := []int{0, 0, 0, 0, 0, 1, 2, 2, 1, 2, 1}
	good := true
	for at, op := range c.Ops {
		if op.Kind < 1 || op.Kind > 10 {
			return false
		}
		below := slices.Clone(op.Kids)
		for _, way := range op.Ways {
			below = append(below, way.To)
		}
		for _, to := range below {
			good = good && 0 <= to && to < at
		}
		good = good && len(op.Kids) == many[op.Kind] && op.N >= 0
		good = good && !slices.ContainsFunc(op.Caps, func(n int) bool { return n < 0 })
		good = good && (op.Kind != 3 || op.N < len(c.Defs))
		good = good && (op.Kind != 9 || slices.Contains([]string{"+", "-", "*", "/", "==", "<"}, op.Name))
	}
	for _, def := range c.Defs {
		good = good && 0 <= def && def < len(c.Ops)
	}
	return good
}

// bend changes a number or a list of a code.
func bend(next func(int) int, c *api.Code) {
	some := func() int {
		return []int{-1, 0, len(c.Ops) - 1, len(c.Ops), len(c.Defs), next(len(c.Ops) + 1), -1 << 63, 1<<63 - 1}[next(8)]
	}
	at := next(len(c.Ops))
	op := &c.Ops[at]
	switch next(10) {
	case 0:
		op.Kind = next(13) - 1
	case 1:
		op.N = some()
	case 2:
		if len(op.Kids) > 0 {
			op.Kids[next(len(op.Kids))] = []int{at - 1, at, at + 1, some()}[next(4)]
		}
	case 3:
		if len(op.Ways) > 0 {
			op.Ways[next(len(op.Ways))].To = []int{at - 1, at, at + 1, some()}[next(4)]
		}
	case 4:
		op.Caps = append(op.Caps, some())
	case 5:
		op.Name = []string{"", "+", "<", "-", "x", "<="}[next(6)]
	case 6:
		op.Kids = append(op.Kids, next(at+1))
	case 7:
		op.Kids = op.Kids[:len(op.Kids)/2]
	case 8:
		c.Defs[next(len(c.Defs))] = some()
	default:
		c.Ops = c.Ops[:max(len(c.Ops)-1, 1)]
	}
}

// P12.3: codes of programs, of which something was changed, or some of that.
func TestCheckBent(t *testing.T) {
	m := &grower{next: source(24)}
	seen := [2]int{}
	for range 3000 {
		p, _ := m.program(1+m.next(3), 12)
		c, _, err := Prog(p)
		for round := 0; err == api.OK && round < 6; round++ {
			bend(m.next, &c)
			want := trueCheck(c)
			if got := Check(c); got != want {
				t.Fatalf("%v; want %v: %v", got, want, c)
			}
			if seen[0]++; want {
				seen[1]++
			}
		}
	}
	if seen[0] < 9000 || seen[1] < seen[0]/10 || seen[1] > seen[0]*9/10 {
		t.Errorf("%d of %d may be", seen[1], seen[0])
	}
}
