package ty

import (
	"maps"
	"slices"

	"dawdler/api"
)

// web has a place for each part of two types that are to be made one, and one for each hole, wherever it stands. Two parts that must be the same are tied: they are looked at once, and never again, so that types of which each holds the one behind it twice take no more time than they have places.
type web struct {
	ties  []int         // of each place, one that it is the same as: itself, if it tells for all of these
	holes map[int]int   // the place of each hole, by its number
	facts map[int]shape // what places are that tell for others; of those that are holes still there is none
	least map[int]int   // of holes that are one, by the place that tells for them, the least number
}

// shape is a type with a Name, whose Args stand in places.
type shape struct {
	name string
	args []int
}

// lay gives a type its places, and answers its own.
func (w *web) lay(t api.Type) int {
	if at, there := w.holes[t.N]; isHole(t) && there {
		return at
	}
	at := len(w.ties)
	w.ties = append(w.ties, at)
	if isHole(t) {
		w.holes[t.N] = at
		return at
	}
	is := shape{name: t.Name}
	for _, arg := range t.Args {
		is.args = append(is.args, w.lay(arg))
	}
	w.facts[at] = is
	return at
}

// teller is the place that tells for this one. The way there is made shorter for the next time.
func (w *web) teller(at int) int {
	for w.ties[at] != at {
		w.ties[at] = w.ties[w.ties[at]]
		at = w.ties[at]
	}
	return at
}

// tie makes two places one, and all that follows from it, or answers false, if Names, or numbers of Args, do not fit. They are tied ahead of their Args, so that it ends where a place is found within itself.
func (w *web) tie(a, b int) bool {
	a, b = w.teller(a), w.teller(b)
	if a == b {
		return true
	}
	is, known := w.facts[a]
	other, both := w.facts[b]
	w.ties[b] = a
	if !both {
		return true
	}
	if !known {
		w.facts[a] = other
		return true
	}
	if is.name != other.name || len(is.args) != len(other.args) {
		return false
	}
	for i := range is.args {
		if !w.tie(is.args[i], other.args[i]) {
			return false
		}
	}
	return true
}

// grow makes the type that a place is, or answers false, if that may not be. A place within itself has no end, and is too deep, so that nobody else has to look for it: there is a hole on each such way, as types end.
func (w *web) grow(at, levels int, left *int) (api.Type, bool) {
	*left--
	if levels == 0 || *left < 0 {
		return api.Type{}, false
	}
	at = w.teller(at)
	is, known := w.facts[at]
	if !known {
		return hole(w.least[at]), true
	}
	t := api.Type{Name: is.name}
	for _, arg := range is.args {
		grown, fit := w.grow(arg, levels-1, left)
		if !fit {
			return api.Type{}, false
		}
		t.Args = append(t.Args, grown)
	}
	return t, true
}

// told are the facts of all holes that are no longer what they were, by rising numbers, or false, if one of their types may not be.
func (w *web) told() ([]api.Fact, bool) {
	var facts []api.Fact
	numbers := slices.Sorted(maps.Keys(w.holes))
	for _, n := range numbers {
		at := w.teller(w.holes[n])
		if _, lower := w.least[at]; !lower {
			w.least[at] = n
		}
	}
	for _, n := range numbers {
		left := api.MaxParts
		is, fit := w.grow(w.holes[n], api.MaxTy, &left)
		if !fit {
			return nil, false
		}
		if !isHole(is) || is.N != n {
			facts = append(facts, api.Fact{N: n, Ty: is})
		}
	}
	return facts, true
}

// Unify are the facts that make two types one.
func Unify(a, b api.Type) ([]api.Fact, api.Errno) {
	if !Check(a) || !Check(b) {
		return nil, api.ErrTy
	}
	w := &web{holes: map[int]int{}, facts: map[int]shape{}, least: map[int]int{}}
	if !w.tie(w.lay(a), w.lay(b)) {
		return nil, api.ErrTy
	}
	facts, fit := w.told()
	if !fit {
		return nil, api.ErrTy
	}
	return facts, api.OK
}
