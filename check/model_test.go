package check

import (
	"slices"
	"strconv"
	"strings"
	"testing"

	"dawdler/api"
	"dawdler/infer"
	"dawdler/print"
	"dawdler/scheme"
	"dawdler/sugar"
	"dawdler/tree"
	"dawdler/ty"
)

// source makes numbers below what is asked for, the same ones in each run.
func source(seed uint64) func(int) int {
	return func(n int) int {
		seed = seed*6364136223846793005 + 1442695040888963407
		return int(seed>>33) % n
	}
}

// reader reads texts of types.
type reader struct{ left string }

func (r *reader) take(s string) bool {
	left, ok := strings.CutPrefix(r.left, s)
	if ok {
		r.left = left
	}
	return ok
}

func (r *reader) atom() api.Type {
	if r.take("(") {
		t := r.whole()
		if !r.take(")") {
			panic("no ) at " + r.left)
		}
		return t
	}
	end := strings.IndexAny(r.left+" ", " ()")
	word := r.left[:end]
	r.left = r.left[end:]
	if len(word) == 1 && word >= "a" && word <= "z" {
		return api.Type{N: int(word[0] - 'a')}
	}
	return api.Type{Name: word}
}

func (r *reader) whole() api.Type {
	ahead := r.atom()
	for strings.HasPrefix(r.left, " ") && !strings.HasPrefix(r.left, " -> ") && r.take(" ") {
		ahead.Args = append(ahead.Args, r.atom())
	}
	if r.take(" -> ") {
		return api.Type{Name: "->", Args: []api.Type{ahead, r.whole()}}
	}
	return ahead
}

func typed(s string) api.Type {
	r := reader{s}
	t := r.whole()
	if r.left != "" {
		panic("left: " + r.left)
	}
	return t
}

// alike tells whether two types are the same; an empty list is as good as none.
func alike(a, b api.Type) bool {
	return a.Name == b.Name && a.N == b.N && slices.EqualFunc(a.Args, b.Args, alike)
}

func sameAssume(a, b api.Assume) bool {
	return a.Name == b.Name && slices.Equal(a.Is.All, b.Is.All) && alike(a.Is.Ty, b.Is.Ty)
}

// trueGiven is what is given, of the chapter's texts.
func trueGiven() []api.Assume {
	var l []api.Assume
	for _, s := range givenTexts() {
		name, is, _ := strings.Cut(s, ": ")
		t := typed(is)
		l = append(l, api.Assume{Name: name, Is: api.Scheme{All: ty.Holes(t), Ty: t}})
	}
	return l
}

// trueDef is what the Def at a place is assumed to be, by the chapter's words, when all those ahead of it are what they are: one error is asked for behind the other.
func trueDef(p api.Prog, at int, assumed []api.Assume) (api.Assume, api.Errno) {
	d := p.Defs[at]
	for _, a := range trueGiven() {
		if a.Name == d.Name {
			return api.Assume{}, api.ErrName
		}
	}
	for _, ahead := range p.Defs[:at] {
		if ahead.Name == d.Name {
			return api.Assume{}, api.ErrName
		}
	}
	e, err := sugar.Core(d.Body)
	if err != api.OK {
		return api.Assume{}, err
	}
	e = api.Expr{Kind: api.ELet, Names: []string{d.Name}, Kids: []api.Expr{e, v(d.Name)}}
	if !tree.Check(e) {
		return api.Assume{}, api.ErrNest
	}
	is, err := infer.Type(assumed, e)
	return api.Assume{Name: d.Name, Is: api.Scheme{All: ty.Holes(is), Ty: is}}, err
}

// trueProg is what a program comes to, by the chapter's words.
func trueProg(p api.Prog) ([]api.Assume, int, api.Errno) {
	if !tree.Prog(p) {
		return nil, -1, api.ErrTree
	}
	made, err := scheme.Of(p.Datas)
	if err != api.OK {
		return nil, -1, err
	}
	var told []api.Assume
	for at := range p.Defs {
		a, err := trueDef(p, at, slices.Concat(trueGiven(), made, told))
		if err != api.OK {
			return nil, at, err
		}
		told = append(told, a)
	}
	for _, a := range told {
		if a.Name == "main" && a.Is.Ty.Name == "IO" {
			return told, -1, api.OK
		}
	}
	return nil, -1, api.ErrMain
}

// checkModel holds a program's types against the model's, and tells the error.
func checkModel(t *testing.T, p api.Prog) api.Errno {
	t.Helper()
	want, wantAt, wantErr := trueProg(p)
	got, at, err := Prog(p)
	if at != wantAt || err != wantErr || !slices.EqualFunc(got, want, sameAssume) {
		t.Fatalf("%s: %s, %d, %d; want %s, %d, %d", shortProg(p), cut(strings.Join(texts(got), "; ")), at, err, cut(strings.Join(texts(want), "; ")), wantAt, wantErr)
	}
	return err
}

func shortProg(p api.Prog) string {
	s, err := print.Prog(p)
	if err != api.OK {
		return "a program that may not be"
	}
	return cut(s)
}

// bound is a name, and its type, of which nothing is a hole.
type bound struct{ name, is string }

// maker makes trees that are of some type, most of them.
type maker struct {
	next  func(int) int
	known []bound // the Defs so far
	wrong int     // one tree of so many is of another type; none, of 0
	count int
	left  int // how many parts there may be, about
}

// pick is a name of a type, if there is one.
func (m *maker) pick(is string, here []bound) (api.Expr, bool) {
	var l []bound
	for _, b := range slices.Concat(here, m.known) {
		if b.is == is {
			l = append(l, b)
		}
	}
	if len(l) == 0 {
		return api.Expr{}, false
	}
	return v(l[m.next(len(l))].name), true
}

// types are those that a maker makes things of.
func types() []string {
	return []string{"Int", "Bool", "Unit", "TVar Int", "IO Int", "IO Unit", "IO Bool", "IO (TVar Int)", "STM Int", "STM Unit", "STM Bool", "STM (TVar Int)", "L Int", "L (IO Int)", "Int -> Int", "Int -> (IO Int)", "Bool -> (STM Int)", "(TVar Int) -> (STM Int)", "(L Int) -> Int"}
}

func (m *maker) anyType() string { return types()[m.next(len(types()))] }

func con(name string, l ...api.Expr) api.Expr {
	return call(api.Expr{Kind: api.ECon, Name: name}, l...)
}

func call(e api.Expr, l ...api.Expr) api.Expr {
	for _, arg := range l {
		e = of(api.EApp, e, arg)
	}
	return e
}

func alt(name string, e api.Expr, names ...string) api.Expr {
	return api.Expr{Kind: api.EAlt, Name: name, Names: names, Kids: []api.Expr{e}}
}

// fresh is a name that nothing else has.
func (m *maker) fresh() string {
	m.count++
	return "x" + strconv.Itoa(m.count)
}

// grow makes a tree of a type; where no more parts are left, the next best one.
func (m *maker) grow(is string, here []bound) api.Expr {
	m.left--
	if m.wrong > 0 && m.next(m.wrong) == 0 {
		is = m.anyType()
	}
	if e, there := m.pick(is, here); there && (m.left < 0 || m.next(2) == 0) {
		return e
	}
	if m.left > 0 && m.next(3) == 0 {
		return m.around(is, here)
	}
	return m.made(typed(is), here)
}

// around makes something that can be of any type.
func (m *maker) around(is string, here []bound) api.Expr {
	switch m.next(6) {
	case 0:
		return of(api.EIf, m.grow("Bool", here), m.grow(is, here), m.grow(is, here))
	case 1:
		b := bound{m.fresh(), m.anyType()}
		return api.Expr{Kind: api.ELet, Names: []string{b.name}, Kids: []api.Expr{m.grow(b.is, here), m.grow(is, append(here[:len(here):len(here)], b))}}
	case 2:
		b := bound{m.fresh(), m.anyType()}
		return call(lam(b.name, m.grow(is, append(here[:len(here):len(here)], b))), m.grow(b.is, here))
	case 3:
		h, t := bound{m.fresh(), "Int"}, bound{m.fresh(), "L Int"}
		return of(api.ECase, m.grow("L Int", here), alt("N", m.grow(is, here)), alt("C", m.grow(is, append(here[:len(here):len(here)], h, t)), h.name, t.name))
	case 4:
		return call(v("id"), m.grow(is, here))
	}
	return call(v("k"), m.grow(is, here), m.grow(m.anyType(), here))
}

// text is a type's, as a bound one has it.
func text(t api.Type) string { return ty.Text(t) }

// made makes what only a type is made by.
func (m *maker) made(t api.Type, here []bound) api.Expr {
	switch t.Name {
	case "Int":
		if m.left > 0 && m.next(2) == 0 {
			return plus(m.grow("Int", here), m.grow("Int", here))
		}
		return number(m.next(3))
	case "Bool":
		if m.left > 0 && m.next(2) == 0 {
			return api.Expr{Kind: api.EOp, Name: []string{"==", "<"}[m.next(2)], Kids: []api.Expr{m.grow("Int", here), m.grow("Int", here)}}
		}
		return con([]string{"True", "False"}[m.next(2)])
	case "L":
		if m.left > 0 && m.next(2) == 0 {
			return con("C", m.grow(text(t.Args[0]), here), m.grow(text(t), here))
		}
		return con("N")
	case "->":
		b := bound{m.fresh(), text(t.Args[0])}
		return lam(b.name, m.grow(text(t.Args[1]), append(here[:len(here):len(here)], b)))
	case "IO":
		return m.action(t.Args[0], api.EDo, "IO", here)
	case "STM":
		return m.action(t.Args[0], api.EDos, "STM", here)
	case "TVar":
		return call(v("none"), number(1))
	}
	return con("Unit")
}

// action makes one of IO, or of STM, that comes to a type.
func (m *maker) action(t api.Type, block int, kind string, here []bound) api.Expr {
	whole := kind + " " + atom(t)
	switch {
	case m.left > 0 && m.next(3) == 0:
		return m.lines(whole, block, kind, here)
	case m.left > 0 && m.next(3) == 0:
		b := m.anyResult()
		return call(v("bind"+kind), m.grow(kind+" "+atom(typed(b)), here), m.grow("("+atom(typed(b))+") -> ("+whole+")", here))
	case kind == "STM" && m.next(2) == 0:
		return m.transaction(t, whole, here)
	case kind == "IO" && t.Name == "Unit" && m.next(2) == 0:
		if m.next(2) == 0 {
			return call(v("print"), m.grow("Int", here))
		}
		return call(v("forkIO"), m.grow("IO "+atom(typed(m.anyResult())), here))
	case kind == "IO" && m.next(2) == 0:
		return call(v("atomically"), m.grow("STM "+atom(t), here))
	case t.Name == "TVar" && kind == "STM":
		return call(v("newTVar"), m.grow(text(t.Args[0]), here))
	case t.Name == "TVar":
		return call(v("atomically"), call(v("newTVar"), m.grow(text(t.Args[0]), here)))
	}
	return call(v("return"+kind), m.grow(text(t), here))
}

func (m *maker) anyResult() string { return []string{"Int", "Bool", "Unit", "TVar Int"}[m.next(4)] }

// atom is a type's text, as one that something is of.
func atom(t api.Type) string {
	if len(t.Args) == 0 {
		return text(t)
	}
	return "(" + text(t) + ")"
}

func (m *maker) transaction(t api.Type, whole string, here []bound) api.Expr {
	switch m.next(5) {
	case 0:
		return v("retry")
	case 1:
		return call(v("throwSTM"), m.grow("Int", here))
	case 2:
		return call(v("orElse"), m.grow(whole, here), m.grow(whole, here))
	case 3:
		return call(v("catchSTM"), m.grow(whole, here), m.grow("Int -> ("+whole+")", here))
	}
	variable := m.grow("TVar Int", here)
	switch t.Name {
	case "Int":
		return call(v("readTVar"), variable)
	case "Unit":
		return call(v("writeTVar"), variable, m.grow("Int", here))
	}
	return v("retry")
}

// lines makes a block.
func (m *maker) lines(whole string, block int, kind string, here []bound) api.Expr {
	e := of(block)
	for range m.next(4) {
		b := bound{m.fresh(), m.anyResult()}
		line := m.grow(kind+" "+atom(typed(b.is)), here)
		if m.next(3) > 0 {
			line = api.Expr{Kind: api.EBind, Names: []string{b.name}, Kids: []api.Expr{line}}
			here = append(here[:len(here):len(here)], b)
		}
		e.Kids = append(e.Kids, line)
	}
	e.Kids = append(e.Kids, m.grow(whole, here))
	return e
}

// start is what each program that is made begins with.
func start() api.Prog {
	return prog("data L a = N | C a (L a)\nid x = x\nk x y = x\nnone x = none x\n")
}

// program makes one of Defs of some types, and a main among them.
func (m *maker) program(many, size int) (api.Prog, []string) {
	p := start()
	wanted := []string{"", "", ""}
	m.known, m.count = nil, 0
	main := m.next(many)
	for i := range many {
		name, is := "d"+strconv.Itoa(i), m.anyType()
		if i == main {
			name, is = "main", []string{"IO Int", "IO Unit", "IO (TVar Int)"}[m.next(3)]
		}
		m.left = 1 + m.next(size)
		p.Defs = append(p.Defs, def(name, m.grow(is, nil)))
		m.known = append(m.known, bound{name, is})
		wanted = append(wanted, is)
	}
	return p, wanted
}

// generalizes tells whether a type is for more than another one, that has no holes, or the same.
func generalizes(t api.Type, is string) bool {
	_, err := ty.Unify(t, typed(is))
	return err == api.OK
}

// P11.2: programs of which it is known, as they are made, that they have types: each Def's is for what it was made of.
func TestMade(t *testing.T) {
	m, done, great := &maker{next: source(11)}, 0, 0
	for done < 1200 {
		p, wanted := m.program(1+m.next(6), 25)
		if !tree.Prog(p) {
			great++
			continue
		}
		done++
		if err := checkModel(t, p); err == api.ErrNest {
			great++
			continue
		}
		got, at, err := Prog(p)
		if err != api.OK {
			t.Fatalf("%s: %d, %d", shortProg(p), at, err)
		}
		for i, is := range wanted {
			if is != "" && !generalizes(got[i].Is.Ty, is) {
				t.Fatalf("%s: %s is no %s", shortProg(p), text(got[i].Is.Ty), is)
			}
		}
	}
	if great > 200 {
		t.Errorf("%d were too great", great)
	}
}

// P11.2: programs of which some part is of another type, or a name of another one, or there twice, each error among them.
func TestSpoiled(t *testing.T) {
	m := &maker{next: source(12), wrong: 40}
	seen := map[api.Errno]int{}
	for range 3000 {
		p, _ := m.program(1+m.next(6), 20)
		spoilProg(m.next, &p)
		seen[checkModel(t, p)]++
	}
	for _, err := range []api.Errno{api.OK, api.ErrTree, api.ErrNest, api.ErrName, api.ErrType, api.ErrMain} {
		if seen[err] < 25 {
			t.Errorf("%d was told %d times", err, seen[err])
		}
	}
}

// spoilProg changes a program at a place or two.
func spoilProg(next func(int) int, p *api.Prog) {
	d := &p.Defs[next(len(p.Defs))]
	switch next(12) {
	case 0:
		d.Name = []string{"d0", "d1", "main", "id", "print", "retry", "bindIO"}[next(7)]
	case 1:
		d.Name = "other"
	case 2:
		p.Defs = append(p.Defs[:0:0], p.Defs...)
		i, j := next(len(p.Defs)), next(len(p.Defs))
		p.Defs[i], p.Defs[j] = p.Defs[j], p.Defs[i]
	case 3:
		d.Body = plus(deep(24+next(6)), d.Body)
	case 4:
		d.Body = of(api.EDo, append(slices.Clone(block(11+next(5)).Kids), d.Body)...)
	case 5:
		p.Datas[0].Name = []string{"M", "IO", "L"}[next(3)]
	case 6:
		d.Body = number(next(3) - 2)
	}
}

// P11.2: what Defs are is what lets of them are, one in the other, but for those that are too deep.
func TestNested(t *testing.T) {
	m, done := &maker{next: source(13), wrong: 60}, 0
	made, _ := scheme.Of(start().Datas)
	for range 2000 {
		p, _ := m.program(1+m.next(4), 12)
		nested, wide := v("main"), true
		for _, d := range slices.Backward(p.Defs) {
			e, err := sugar.Core(d.Body)
			wide = wide && err == api.OK
			nested = api.Expr{Kind: api.ELet, Names: []string{d.Name}, Kids: []api.Expr{e, nested}}
		}
		if !wide || !tree.Core(nested) {
			continue
		}
		done++
		is, err := infer.Type(slices.Concat(trueGiven(), made), nested)
		l, at, wrong := Prog(p)
		main := slices.IndexFunc(l, func(a api.Assume) bool { return a.Name == "main" })
		switch {
		case wrong == api.OK && (err != api.OK || !alike(l[main].Is.Ty, is)):
			t.Fatalf("%s: %s; nested %s, %d", shortProg(p), text(l[main].Is.Ty), text(is), err)
		case wrong != api.OK && wrong != api.ErrMain && err != wrong:
			t.Fatalf("%s: %d, %d; nested %d", shortProg(p), at, wrong, err)
		}
	}
	if done < 800 {
		t.Errorf("%d", done)
	}
}

// actions makes an action of IO, or of STM, and tells whether each in it is of the kind that is asked there; main is one of IO.
type actions struct {
	next func(int) int
	good bool
	left int
}

// swapped is the other kind, now and then.
func (a *actions) swapped(kind string) string {
	if a.next(25) > 0 {
		return kind
	}
	a.good = false
	return map[string]string{"IO": "STM", "STM": "IO"}[kind]
}

// grow makes one of a kind, that comes to a number.
func (a *actions) grow(kind string) api.Expr {
	a.left--
	kind = a.swapped(kind)
	then := func() api.Expr { return lam("x", a.grow(kind)) }
	ways := 5
	if kind == "STM" {
		ways = 8
	}
	if a.left < 0 {
		ways = 1
	}
	switch a.next(ways) {
	case 0:
		return call(v("return"+kind), number(1))
	case 1:
		return call(v("bind"+kind), a.grow(kind), then())
	case 2:
		return of(api.EIf, con("True"), a.grow(kind), a.grow(kind))
	case 3:
		return of(map[string]int{"IO": api.EDo, "STM": api.EDos}[kind], a.grow(kind), api.Expr{Kind: api.EBind, Names: []string{"y"}, Kids: []api.Expr{a.grow(kind)}}, a.grow(kind))
	case 4:
		if kind == "STM" {
			return call(v("throwSTM"), number(2))
		}
		return of(api.EDo, call(v("forkIO"), a.grow("IO")), call(v("atomically"), a.grow("STM")))
	case 5:
		return call(v("orElse"), a.grow("STM"), a.grow("STM"))
	case 6:
		return call(v("catchSTM"), a.grow("STM"), then())
	}
	return of(api.EDos, call(v("writeTVar"), v("t"), number(2)), call(v("readTVar"), v("t")), a.grow("STM"))
}

// P11.3: a program does STM behind atomically alone, and IO nowhere within that; whatever mixes them has no type, and whatever does not has one.
func TestMixed(t *testing.T) {
	a, good, all := &actions{next: source(14)}, 0, 0
	for all < 4000 {
		a.good, a.left = true, a.next(20)
		e := a.grow("IO")
		p := prog("print1 = print 1\n")
		p.Defs = append(p.Defs, def("main", call(v("bindIO"), call(v("atomically"), call(v("newTVar"), number(1))), lam("t", e))))
		_, at, err := Prog(p)
		if err == api.ErrTree || err == api.ErrNest {
			continue
		}
		all++
		if a.good {
			good++
		}
		if a.good != (err == api.OK) || !a.good && (at != 1 || err != api.ErrType) {
			t.Fatalf("%s: %v, %d, %d", shortProg(p), a.good, at, err)
		}
	}
	if good < all/4 || good > all*3/4 {
		t.Errorf("%d of %d are good", good, all)
	}
}
