package code

import (
	"slices"

	"dawdler/api"
	"dawdler/tree"
)

// maker makes a program's operations: it holds those that there are so far, the places of the Defs, and what was asked of constructors, as each one's answer is long to find.
type maker struct {
	ops   []api.Op
	datas []api.Data
	defs  map[string]int
	arity map[string]int
}

// start is a maker that has put nothing yet.
func start(p api.Prog) *maker {
	m := &maker{datas: p.Datas, defs: map[string]int{}, arity: map[string]int{}}
	for at, d := range p.Defs {
		m.defs[d.Name] = at
	}
	return m
}

// operation puts a bare tree's operation, in surroundings, behind all that there are, once those that it is of are there; and is its place.
func (m *maker) operation(e api.Expr, around []string) int {
	made := m.kind(e.Kind)
	return m.put(made(e, around))
}

// put puts an operation behind all that there are, and is its place.
func (m *maker) put(op api.Op) int {
	m.ops = append(m.ops, op)
	return len(m.ops) - 1
}

// kind is what makes the operation of a tree of a kind, once it has put those that it is of.
func (m *maker) kind(kind int) func(api.Expr, []string) api.Op {
	switch kind {
	case api.EInt:
		return m.number
	case api.EVar:
		return m.name
	case api.ECon:
		return m.con
	case api.ELam:
		return m.lam
	case api.EApp:
		return m.app
	case api.ELet:
		return m.let
	case api.ECase:
		return m.choice
	}
	return m.prim
}

func (m *maker) number(e api.Expr, _ []string) api.Op {
	return api.Op{Kind: api.OInt, N: e.Num}
}

// name looks from behind, as a name stands for the last one that is it.
func (m *maker) name(e api.Expr, around []string) api.Op {
	for at, name := range slices.Backward(around) {
		if name == e.Name {
			return api.Op{Kind: api.OLocal, N: at}
		}
	}
	if at, is := m.defs[e.Name]; is {
		return api.Op{Kind: api.OGlobal, N: at}
	}
	return m.con(e, around)
}

// con is of a given name, too: it is a constructor of what it is to be done with.
func (m *maker) con(e api.Expr, _ []string) api.Op {
	many, asked := m.arity[e.Name]
	if !asked {
		many = Arity(m.datas, e.Name)
		m.arity[e.Name] = many
	}
	return api.Op{Kind: api.OCon, N: many, Name: e.Name}
}

func (m *maker) lam(e api.Expr, around []string) api.Op {
	caps, own := along(e, around)
	below := m.operation(e.Kids[0], behind(own, e.Names))
	return api.Op{Kind: api.OLam, Kids: []int{below}, Caps: caps}
}

func (m *maker) app(e api.Expr, around []string) api.Op {
	function := m.operation(e.Kids[0], around)
	return api.Op{Kind: api.OApp, Kids: []int{function, m.held(e.Kids[1], around)}}
}

// let has the name stand in both Kids, as what it is may name itself.
func (m *maker) let(e api.Expr, around []string) api.Op {
	inner := behind(around, e.Names)
	is := m.put(m.delay(e.Kids[0], inner))
	return api.Op{Kind: api.OLet, Kids: []int{is, m.operation(e.Kids[1], inner)}}
}

func (m *maker) choice(e api.Expr, around []string) api.Op {
	op := api.Op{Kind: api.OCase, Kids: []int{m.operation(e.Kids[0], around)}}
	for _, alt := range e.Kids[1:] {
		to := m.operation(alt.Kids[0], behind(around, alt.Names))
		op.Ways = append(op.Ways, api.Way{Con: alt.Name, Many: len(alt.Names), To: to})
	}
	return op
}

func (m *maker) prim(e api.Expr, around []string) api.Op {
	left := m.operation(e.Kids[0], around)
	return api.Op{Kind: api.OPrim, Name: e.Name, Kids: []int{left, m.operation(e.Kids[1], around)}}
}

// delay is an operation that does a tree only when it is needed.
func (m *maker) delay(e api.Expr, around []string) api.Op {
	caps, own := along(e, around)
	return api.Op{Kind: api.ODelay, Kids: []int{m.operation(e, own)}, Caps: caps}
}

// held puts what holds a tree: nothing is to be done for what is a value, or has a place, already.
func (m *maker) held(e api.Expr, around []string) int {
	switch e.Kind {
	case api.EInt, api.EVar, api.ECon, api.ELam:
		return m.operation(e, around)
	}
	return m.put(m.delay(e, around))
}

// behind is surroundings with more names behind, in memory of their own, so that nobody has to ask who else holds theirs.
func behind(around, names []string) []string {
	return slices.Concat(around, names)
}

// along is what a tree takes along of surroundings: places, rising, and its own surroundings, which are the names there.
func along(e api.Expr, around []string) ([]int, []string) {
	free := map[string]struct{}{}
	for _, name := range tree.Free(e) {
		free[name] = struct{}{}
	}
	// A name is asked for from behind, and taken once, so that it is the last one that is it.
	taken := func(name string) bool {
		_, is := free[name]
		delete(free, name)
		return is
	}
	var caps []int
	var own []string
	for at, name := range slices.Backward(around) {
		if taken(name) {
			caps, own = append(caps, at), append(own, name)
		}
	}
	slices.Reverse(caps)
	slices.Reverse(own)
	return caps, own
}
