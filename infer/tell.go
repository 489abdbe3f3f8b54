package infer

import (
	"slices"

	"dawdler/api"
	"dawdler/num"
	"dawdler/scheme"
	"dawdler/ty"
)

// arrow is the Name of functions, of two.
const arrow = "->"

// way is how the type of a tree of a Kind is told.
type way struct {
	kind int
	tell func(e api.Expr) api.Type
}

// teller tells the types of a tree's parts, in order.
type teller struct {
	ways    []way
	given   map[string]api.Scheme // what was assumed at first, of which nothing is free
	assumed []api.Assume          // what is assumed behind that, where somebody is in the tree
	known   facts
	left    int  // how many facts were left when some were last forgotten
	next    int  // the number of the next hole that is new
	none    bool // whether a part has no type, so that nothing has one any more
}

func newTeller(given map[string]api.Scheme) *teller {
	t := &teller{given: given, known: facts{}}
	t.ways = []way{
		{api.EInt, t.number},
		{api.EVar, t.name},
		{api.ECon, t.name},
		{api.ELam, t.function},
		{api.EApp, t.applied},
		{api.ELet, t.let},
		{api.ECase, t.choice},
		{api.EOp, t.operation},
	}
	return t
}

// tell is a tree's type, with all that is known then.
func (t *teller) tell(e api.Expr) api.Type {
	first := t.next
	for _, w := range t.ways {
		if w.kind == e.Kind && !t.none {
			is := t.now(w.tell(e))
			t.forget(first)
			return is
		}
	}
	return api.Type{}
}

// forget drops what is known of holes that are not older than first, and that none of the older ones leads to: what was told and assumed ahead has only these, and a type with all that is known has no hole of which there is a fact. Types that are equated again and again, each time with holes of their own, would need very much memory else.
func (t *teller) forget(first int) {
	if len(t.known) > 2*t.left {
		t.known.keep(first)
		t.left = len(t.known)
	}
}

// now is a type with all that is known, if that may be.
func (t *teller) now(is api.Type) api.Type {
	if t.none || !t.known.survey().fits(is) {
		t.none = true
		return api.Type{}
	}
	return t.known.put(is)
}

// equate makes two types one, for all that is told from then on.
func (t *teller) equate(a, b api.Type) {
	a, b = t.now(a), t.now(b)
	if t.none {
		return
	}
	l, err := ty.Unify(a, b)
	t.none = err != api.OK
	for _, fact := range l {
		t.known[fact.N] = fact.Ty
	}
}

func (t *teller) newHole() api.Type {
	t.next++
	return hole(t.next - 1)
}

func (t *teller) assume(name string, is api.Scheme) {
	t.assumed = append(t.assumed, api.Assume{Name: name, Is: is})
}

// leave assumes no more than the first many.
func (t *teller) leave(many int) { t.assumed = t.assumed[:many] }

// meaning is the last one of what a name is assumed to be.
func (t *teller) meaning(name string) api.Scheme {
	for _, a := range slices.Backward(t.assumed) {
		if a.Name == name {
			return a.Is
		}
	}
	return t.given[name]
}

// opened is what a name is, with new holes; what is known of others is put when it is told.
func (t *teller) opened(name string) api.Type {
	is, next, err := scheme.Open(t.meaning(name), t.next)
	if err != api.OK {
		t.none = true
		return api.Type{}
	}
	t.next = next
	return is
}

// closed is a type for all its holes that are free in nothing that is assumed. It is closed beside these holes instead of types that have them, as types of many names, with all that is known, can have very many parts together. (Holes that a name is for all of may be among these: nobody else has them.)
func (t *teller) closed(is api.Type) api.Scheme {
	s := t.known.survey()
	for _, a := range t.assumed {
		if !s.fits(a.Is.Ty) {
			t.none = true
		}
	}
	var beside []api.Scheme
	for _, n := range s.open {
		beside = append(beside, api.Scheme{Ty: hole(n)})
	}
	all, err := scheme.Close(t.now(is), beside...)
	if err != api.OK {
		t.none = true
	}
	return all
}

func (t *teller) number(api.Expr) api.Type { return api.Type{Name: "Int"} }

func (t *teller) name(e api.Expr) api.Type { return t.opened(e.Name) }

func (t *teller) function(e api.Expr) api.Type {
	of := t.newHole()
	t.assume(e.Names[0], api.Scheme{Ty: of})
	is := functionOf(of, t.tell(e.Kids[0]))
	t.leave(len(t.assumed) - 1)
	return is
}

func (t *teller) applied(e api.Expr) api.Type {
	function, of := t.tell(e.Kids[0]), t.tell(e.Kids[1])
	made := t.newHole()
	t.equate(function, functionOf(of, made))
	return made
}

func (t *teller) let(e api.Expr) api.Type {
	ahead, is := len(t.assumed), t.newHole()
	t.assume(e.Names[0], api.Scheme{Ty: is})
	t.equate(is, t.tell(e.Kids[0]))
	t.leave(ahead)
	t.assume(e.Names[0], t.closed(is))
	made := t.tell(e.Kids[1])
	t.leave(ahead)
	return made
}

func (t *teller) choice(e api.Expr) api.Type {
	ahead, of := len(t.assumed), t.tell(e.Kids[0])
	made := t.newHole()
	for _, alt := range e.Kids[1:] {
		t.equate(t.take(alt), of)
		t.equate(made, t.tell(alt.Kids[0]))
		t.leave(ahead)
	}
	return made
}

// take assumes the Names of one of a case's ways, and answers what its constructor makes of these.
func (t *teller) take(alt api.Expr) api.Type {
	is := t.opened(alt.Name)
	for _, name := range alt.Names {
		if !isFunction(is) {
			t.none = true
			return api.Type{}
		}
		t.assume(name, api.Scheme{Ty: is.Args[0]})
		is = is.Args[1]
	}
	if isFunction(is) {
		t.none = true
	}
	return is
}

func (t *teller) operation(e api.Expr) api.Type {
	for _, kid := range e.Kids {
		t.equate(t.tell(kid), api.Type{Name: "Int"})
	}
	if _, comparison := num.Is(e.Name); comparison {
		return api.Type{Name: "Bool"}
	}
	return api.Type{Name: "Int"}
}

func functionOf(a, b api.Type) api.Type { return api.Type{Name: arrow, Args: []api.Type{a, b}} }

func isFunction(t api.Type) bool { return t.Name == arrow && len(t.Args) == 2 }
