package scheme

import (
	"iter"
	"slices"

	"dawdler/api"
	"dawdler/tree"
	"dawdler/ty"
)

// arrow is what functions are written by. No Data can have that name.
const arrow = "->"

// givenTypes are those that nobody has to tell of, with functions, each with how many it is of.
func givenTypes() map[string]int {
	return map[string]int{"Int": 0, "Bool": 0, "Unit": 0, "TVar": 1, "STM": 1, "IO": 1, arrow: 2}
}

func givenConstructors() map[string]struct{} {
	return map[string]struct{}{"True": {}, "False": {}, "Unit": {}}
}

// owner is whose a constructor is: the type's name, of how many it is, and which hole each of its Params is.
type owner struct {
	name  string
	many  int
	holes map[string]int
}

func ownerOf(d api.Data) owner {
	of := owner{name: d.Name, many: len(d.Params), holes: map[string]int{}}
	for n, param := range d.Params {
		of.holes[param] = n
	}
	return of
}

// constructors goes through all Forms, in order, each with whose it is.
func constructors(l []api.Data) iter.Seq2[owner, api.Form] {
	return func(yield func(owner, api.Form) bool) {
		for _, d := range l {
			of := ownerOf(d)
			for _, form := range d.Forms {
				if !yield(of, form) {
					return
				}
			}
		}
	}
}

// Of are the constructors of Datas, and what each of them is assumed to be.
func Of(l []api.Data) ([]api.Assume, api.Errno) {
	if !tree.Prog(api.Prog{Datas: l}) {
		return nil, api.ErrTree
	}
	if misnamed(l) {
		return nil, api.ErrName
	}
	var assumed []api.Assume
	for of, form := range constructors(l) {
		is := of.typeOf(form)
		if !ty.Check(is) {
			return nil, api.ErrTy
		}
		assumed = append(assumed, api.Assume{Name: form.Name, Is: api.Scheme{All: of.all(), Ty: is}})
	}
	return assumed, api.OK
}

// misnamed tells whether Datas have a name twice, or one that there is none of. All their own names are gone through ahead of Forms, as these may name any of them.
func misnamed(l []api.Data) bool {
	types := givenTypes()
	for _, d := range l {
		if _, twice := types[d.Name]; twice {
			return true
		}
		types[d.Name] = len(d.Params)
	}
	wrong, known := wrongIn(types), givenConstructors()
	for of, form := range constructors(l) {
		if _, twice := known[form.Name]; twice || wrong(of, form.Args) {
			return true
		}
		known[form.Name] = struct{}{}
	}
	return false
}

// wrongIn makes what tells whether written types name something that there is none of, or have not as many Args as it is of.
func wrongIn(types map[string]int) func(of owner, l []api.Sig) bool {
	var wrong func(of owner, l []api.Sig) bool
	wrong = func(of owner, l []api.Sig) bool {
		for i, s := range l {
			if i > 0 && same(s, l[i-1]) {
				continue
			}
			if _, param := of.holes[s.Name]; param {
				continue
			}
			if many, there := types[s.Name]; !there || many != len(s.Args) || wrong(of, s.Args) {
				return true
			}
		}
		return false
	}
	return wrong
}

// same tells whether two written types are one, held again. One that stands side by side with itself is looked at once: written types made by hand, of few lists, can have more parts than anybody can go through.
func same(a, b api.Sig) bool {
	return a.Name == b.Name && len(a.Args) == len(b.Args) && (len(a.Args) == 0 || &a.Args[0] == &b.Args[0])
}

// all are the numbers of the holes that a constructor's type is for.
func (of owner) all() []int {
	var l []int
	for n := range of.many {
		l = append(l, n)
	}
	return l
}

// typeOf is a constructor's type: a function of its Args, one behind the other, to whose it is.
func (of owner) typeOf(form api.Form) api.Type {
	is, left := of.end(), api.MaxParts
	for _, arg := range slices.Backward(form.Args) {
		is = api.Type{Name: arrow, Args: []api.Type{of.made(arg, &left), is}}
	}
	return is
}

// end is what is made by a constructor.
func (of owner) end() api.Type {
	is := api.Type{Name: of.name}
	for n := range of.many {
		is.Args = append(is.Args, hole(n))
	}
	return is
}

// made is a written type as a type. Nothing is made any more when more parts are there than a type may have: it is one that may not be without the others, too.
func (of owner) made(s api.Sig, left *int) api.Type {
	*left--
	if n, param := of.holes[s.Name]; param {
		return hole(n)
	}
	is := api.Type{Name: s.Name}
	for _, arg := range s.Args {
		if *left < 0 {
			break
		}
		is.Args = append(is.Args, of.made(arg, left))
	}
	return is
}
