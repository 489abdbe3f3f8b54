package code

import (
	"slices"
	"strconv"
	"strings"

	"dawdler/api"
	"dawdler/print"
	"dawdler/ty"
)

// source makes numbers below what is asked for, the same ones in each run.
func source(seed uint64) func(int) int {
	return func(n int) int {
		seed = seed*6364136223846793005 + 1442695040888963407
		return int(seed>>33) % n
	}
}

// reader reads texts of types.
type reader struct{ left string }

func (r *reader) take(s string) bool {
	left, ok := strings.CutPrefix(r.left, s)
	if ok {
		r.left = left
	}
	return ok
}

func (r *reader) atom() api.Type {
	if r.take("(") {
		t := r.whole()
		if !r.take(")") {
			panic("no ) at " + r.left)
		}
		return t
	}
	end := strings.IndexAny(r.left+" ", " ()")
	word := r.left[:end]
	r.left = r.left[end:]
	if len(word) == 1 && word >= "a" && word <= "z" {
		return api.Type{N: int(word[0] - 'a')}
	}
	return api.Type{Name: word}
}

func (r *reader) whole() api.Type {
	ahead := r.atom()
	for strings.HasPrefix(r.left, " ") && !strings.HasPrefix(r.left, " -> ") && r.take(" ") {
		ahead.Args = append(ahead.Args, r.atom())
	}
	if r.take(" -> ") {
		return api.Type{Name: "->", Args: []api.Type{ahead, r.whole()}}
	}
	return ahead
}

func typed(s string) api.Type {
	r := reader{s}
	t := r.whole()
	if r.left != "" {
		panic("left: " + r.left)
	}
	return t
}

func shortProg(p api.Prog) string {
	s, err := print.Prog(p)
	if err != api.OK {
		return "a program that may not be"
	}
	return cut(s)
}

// bound is a name, and its type, of which nothing is a hole.
type bound struct{ name, is string }

// grower makes trees that are of some type, most of them.
type grower struct {
	next  func(int) int
	known []bound // the Defs so far
	wrong int     // one tree of so many is of another type; none, of 0
	count int
	left  int // how many parts there may be, about
}

// pick is a name of a type, if there is one.
func (m *grower) pick(is string, here []bound) (api.Expr, bool) {
	var l []bound
	for _, b := range slices.Concat(here, m.known) {
		if b.is == is {
			l = append(l, b)
		}
	}
	if len(l) == 0 {
		return api.Expr{}, false
	}
	return v(l[m.next(len(l))].name), true
}

// types are those that a grower makes things of.
func types() []string {
	return []string{"Int", "Bool", "Unit", "TVar Int", "IO Int", "IO Unit", "IO Bool", "IO (TVar Int)", "STM Int", "STM Unit", "STM Bool", "STM (TVar Int)", "L Int", "L (IO Int)", "Int -> Int", "Int -> (IO Int)", "Bool -> (STM Int)", "(TVar Int) -> (STM Int)", "(L Int) -> Int"}
}

func (m *grower) anyType() string { return types()[m.next(len(types()))] }

// fresh is a name that nothing else has.
func (m *grower) fresh() string {
	m.count++
	return "x" + strconv.Itoa(m.count)
}

// grow makes a tree of a type; where no more parts are left, the next best one.
func (m *grower) grow(is string, here []bound) api.Expr {
	m.left--
	if m.wrong > 0 && m.next(m.wrong) == 0 {
		is = m.anyType()
	}
	if e, there := m.pick(is, here); there && (m.left < 0 || m.next(2) == 0) {
		return e
	}
	if m.left > 0 && m.next(3) == 0 {
		return m.around(is, here)
	}
	return m.made(typed(is), here)
}

// around makes something that can be of any type.
func (m *grower) around(is string, here []bound) api.Expr {
	switch m.next(6) {
	case 0:
		return of(api.EIf, m.grow("Bool", here), m.grow(is, here), m.grow(is, here))
	case 1:
		b := bound{m.fresh(), m.anyType()}
		return api.Expr{Kind: api.ELet, Names: []string{b.name}, Kids: []api.Expr{m.grow(b.is, here), m.grow(is, append(here[:len(here):len(here)], b))}}
	case 2:
		b := bound{m.fresh(), m.anyType()}
		return call(lam(b.name, m.grow(is, append(here[:len(here):len(here)], b))), m.grow(b.is, here))
	case 3:
		h, t := bound{m.fresh(), "Int"}, bound{m.fresh(), "L Int"}
		return of(api.ECase, m.grow("L Int", here), alt("N", m.grow(is, here)), alt("C", m.grow(is, append(here[:len(here):len(here)], h, t)), h.name, t.name))
	case 4:
		return call(v("id"), m.grow(is, here))
	}
	return call(v("k"), m.grow(is, here), m.grow(m.anyType(), here))
}

// text is a type's, as a bound one has it.
func text(t api.Type) string { return ty.Text(t) }

// made makes what only a type is made by.
func (m *grower) made(t api.Type, here []bound) api.Expr {
	switch t.Name {
	case "Int":
		if m.left > 0 && m.next(2) == 0 {
			return plus(m.grow("Int", here), m.grow("Int", here))
		}
		return number(m.next(3))
	case "Bool":
		if m.left > 0 && m.next(2) == 0 {
			return api.Expr{Kind: api.EOp, Name: []string{"==", "<"}[m.next(2)], Kids: []api.Expr{m.grow("Int", here), m.grow("Int", here)}}
		}
		return con([]string{"True", "False"}[m.next(2)])
	case "L":
		if m.left > 0 && m.next(2) == 0 {
			return con("C", m.grow(text(t.Args[0]), here), m.grow(text(t), here))
		}
		return con("N")
	case "->":
		b := bound{m.fresh(), text(t.Args[0])}
		return lam(b.name, m.grow(text(t.Args[1]), append(here[:len(here):len(here)], b)))
	case "IO":
		return m.action(t.Args[0], api.EDo, "IO", here)
	case "STM":
		return m.action(t.Args[0], api.EDos, "STM", here)
	case "TVar":
		return call(v("none"), number(1))
	}
	return con("Unit")
}

// action makes one of IO, or of STM, that comes to a type.
func (m *grower) action(t api.Type, block int, kind string, here []bound) api.Expr {
	whole := kind + " " + atom(t)
	switch {
	case m.left > 0 && m.next(3) == 0:
		return m.lines(whole, block, kind, here)
	case m.left > 0 && m.next(3) == 0:
		b := m.anyResult()
		return call(v("bind"+kind), m.grow(kind+" "+atom(typed(b)), here), m.grow("("+atom(typed(b))+") -> ("+whole+")", here))
	case kind == "STM" && m.next(2) == 0:
		return m.transaction(t, whole, here)
	case kind == "IO" && t.Name == "Unit" && m.next(2) == 0:
		if m.next(2) == 0 {
			return call(v("print"), m.grow("Int", here))
		}
		return call(v("forkIO"), m.grow("IO "+atom(typed(m.anyResult())), here))
	case kind == "IO" && m.next(2) == 0:
		return call(v("atomically"), m.grow("STM "+atom(t), here))
	case t.Name == "TVar" && kind == "STM":
		return call(v("newTVar"), m.grow(text(t.Args[0]), here))
	case t.Name == "TVar":
		return call(v("atomically"), call(v("newTVar"), m.grow(text(t.Args[0]), here)))
	}
	return call(v("return"+kind), m.grow(text(t), here))
}

func (m *grower) anyResult() string { return []string{"Int", "Bool", "Unit", "TVar Int"}[m.next(4)] }

// atom is a type's text, as one that something is of.
func atom(t api.Type) string {
	if len(t.Args) == 0 {
		return text(t)
	}
	return "(" + text(t) + ")"
}

func (m *grower) transaction(t api.Type, whole string, here []bound) api.Expr {
	switch m.next(5) {
	case 0:
		return v("retry")
	case 1:
		return call(v("throwSTM"), m.grow("Int", here))
	case 2:
		return call(v("orElse"), m.grow(whole, here), m.grow(whole, here))
	case 3:
		return call(v("catchSTM"), m.grow(whole, here), m.grow("Int -> ("+whole+")", here))
	}
	variable := m.grow("TVar Int", here)
	switch t.Name {
	case "Int":
		return call(v("readTVar"), variable)
	case "Unit":
		return call(v("writeTVar"), variable, m.grow("Int", here))
	}
	return v("retry")
}

// lines makes a block.
func (m *grower) lines(whole string, block int, kind string, here []bound) api.Expr {
	e := of(block)
	for range m.next(4) {
		b := bound{m.fresh(), m.anyResult()}
		line := m.grow(kind+" "+atom(typed(b.is)), here)
		if m.next(3) > 0 {
			line = api.Expr{Kind: api.EBind, Names: []string{b.name}, Kids: []api.Expr{line}}
			here = append(here[:len(here):len(here)], b)
		}
		e.Kids = append(e.Kids, line)
	}
	e.Kids = append(e.Kids, m.grow(whole, here))
	return e
}

// begun is what each program that is made begins with.
func begun() api.Prog {
	return prog("data L a = N | C a (L a)\nid x = x\nk x y = x\nnone x = none x\n")
}

// program makes one of Defs of some types, and a main among them.
func (m *grower) program(many, size int) (api.Prog, []string) {
	p := begun()
	wanted := []string{"", "", ""}
	m.known, m.count = nil, 0
	main := m.next(many)
	for i := range many {
		name, is := "d"+strconv.Itoa(i), m.anyType()
		if i == main {
			name, is = "main", []string{"IO Int", "IO Unit", "IO (TVar Int)"}[m.next(3)]
		}
		m.left = 1 + m.next(size)
		p.Defs = append(p.Defs, def(name, m.grow(is, nil)))
		m.known = append(m.known, bound{name, is})
		wanted = append(wanted, is)
	}
	return p, wanted
}

// spoilProg changes a program at a place or two.
func spoilProg(next func(int) int, p *api.Prog) {
	d := &p.Defs[next(len(p.Defs))]
	switch next(12) {
	case 0:
		d.Name = []string{"d0", "d1", "main", "id", "print", "retry", "bindIO"}[next(7)]
	case 1:
		d.Name = "other"
	case 2:
		p.Defs = append(p.Defs[:0:0], p.Defs...)
		i, j := next(len(p.Defs)), next(len(p.Defs))
		p.Defs[i], p.Defs[j] = p.Defs[j], p.Defs[i]
	case 3:
		d.Body = plus(deep(24+next(6)), d.Body)
	case 4:
		d.Body = of(api.EDo, append(slices.Repeat([]api.Expr{call(v("returnIO"), number(1))}, 11+next(5)), d.Body)...)
	case 5:
		p.Datas[0].Name = []string{"M", "IO", "L"}[next(3)]
	case 6:
		d.Body = number(next(3) - 2)
	}
}
