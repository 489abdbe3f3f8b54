package infer

import (
	"maps"

	"dawdler/api"
)

// facts is what is known of holes. What one is may have holes of which there are facts, too, as these became known later; no hole comes to stand within itself.
type facts map[int]api.Type

// put is a type, made anew, with all that is known in the places of its holes. It asks for one that fits, as others can have more parts than anybody can make.
func (f facts) put(t api.Type) api.Type {
	if is, known := f[t.N]; known && isHole(t) {
		return f.put(is)
	}
	made := api.Type{Name: t.Name, N: t.N}
	for _, arg := range t.Args {
		made.Args = append(made.Args, f.put(arg))
	}
	return made
}

// keep drops all facts but those of holes older than first, and of what these lead to.
func (f facts) keep(first int) {
	led := map[int]struct{}{}
	var lead func(t api.Type)
	lead = func(t api.Type) {
		_, seen := led[t.N]
		if is, known := f[t.N]; known && isHole(t) && !seen {
			led[t.N] = struct{}{}
			lead(is)
		}
		for _, arg := range t.Args {
			lead(arg)
		}
	}
	for n := range f {
		if n < first {
			lead(hole(n))
		}
	}
	maps.DeleteFunc(f, func(n int, _ api.Type) bool {
		_, needed := led[n]
		return !needed
	})
}

// extent is how deep a type is, and how many parts it has; of one that may not be, as far as that was seen.
type extent struct{ levels, parts int }

// survey looks at types, with all that is known, without making them: each hole is gone through once, however often it stands there.
type survey struct {
	known facts
	holes map[int]extent // of all that were come by, with what is known of each
	open  []int          // those of which nothing is known
}

func (f facts) survey() *survey { return &survey{known: f, holes: map[int]extent{}} }

// fits tells whether a type may be, with all that is known.
func (s *survey) fits(t api.Type) bool {
	is := s.look(t)
	return is.levels <= api.MaxTy && is.parts <= api.MaxParts
}

// look ends at the first part that is one too many.
func (s *survey) look(t api.Type) extent {
	if isHole(t) {
		return s.hole(t.N)
	}
	is := extent{levels: 1, parts: 1}
	for _, arg := range t.Args {
		of := s.look(arg)
		is.levels = max(is.levels, of.levels+1)
		is.parts += of.parts
		if is.parts > api.MaxParts {
			break
		}
	}
	return is
}

func (s *survey) hole(n int) extent {
	if is, seen := s.holes[n]; seen {
		return is
	}
	is := extent{levels: 1, parts: 1}
	if t, known := s.known[n]; known {
		is = s.look(t)
	} else {
		s.open = append(s.open, n)
	}
	s.holes[n] = is
	return is
}

func isHole(t api.Type) bool { return t.Name == "" }

func hole(n int) api.Type { return api.Type{N: n} }
