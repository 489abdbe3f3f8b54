package ty

import (
	"math"
	"slices"
	"testing"

	"dawdler/api"
)

func sameFacts(a, b []api.Fact) bool {
	return slices.EqualFunc(a, b, func(a, b api.Fact) bool { return a.N == b.N && alike(a.Ty, b.Ty) })
}

func shortFacts(l []api.Fact) string {
	s := ""
	for _, f := range l[:min(len(l), 20)] {
		s += short(api.Type{N: f.N}) + " is " + short(f.Ty) + "; "
	}
	return s
}

// checkNone asks for ErrTy, and no facts, in both orders.
func checkNone(t *testing.T, a, b api.Type) {
	t.Helper()
	for range 2 {
		if l, err := Unify(a, b); err != api.ErrTy || len(l) != 0 {
			t.Errorf("%s, %s: %s, %d", short(a), short(b), shortFacts(l), err)
		}
		a, b = b, a
	}
}

// checkFacts asks for facts, in both orders, by which the two are the same.
func checkFacts(t *testing.T, a, b api.Type, want ...api.Fact) {
	t.Helper()
	for range 2 {
		l, err := Unify(a, b)
		if err != api.OK || !sameFacts(l, want) {
			t.Errorf("%s, %s: %s, %d; want %s", short(a), short(b), shortFacts(l), err, shortFacts(want))
		}
		if !alike(Apply(l, a), Apply(l, b)) {
			t.Errorf("%s, %s: not one by %s", short(a), short(b), shortFacts(l))
		}
		a, b = b, a
	}
}

func is(n int, t api.Type) api.Fact { return api.Fact{N: n, Ty: t} }

// P8.3: what is one already says nothing.
func TestOneAlready(t *testing.T) {
	for _, x := range []api.Type{h(0), h(26), h(math.MaxInt), c("A"), c("->"), c(name(20)), c("T", h(1), h(0)), fn(h(0), h(0)), c("P", c("Q", h(3)), h(2), c("R")), chain(59, h(0)), broad(1999, h(4)), broad(1999, c("A"))} {
		checkFacts(t, x, x)
	}
}

// P8.3: a hole is what stands at its place.
func TestHoleIs(t *testing.T) {
	a := c("A")
	for _, n := range []int{0, 1, 25, 26, math.MaxInt} {
		checkFacts(t, h(n), a, is(n, a))
		checkFacts(t, h(n), c("T", h(5)), is(n, c("T", h(5))))
		checkFacts(t, h(n), fn(h(6), c("T", h(7))), is(n, fn(h(6), c("T", h(7)))))
		checkFacts(t, c("T", a, h(n)), c("T", a, c("B")), is(n, c("B")))
		checkFacts(t, c("T", h(n), h(n)), c("T", a, a), is(n, a))
		checkNone(t, c("T", h(n), h(n)), c("T", a, c("B")))
	}
	checkFacts(t, h(0), c("->"), is(0, c("->")))
	checkFacts(t, h(0), c(name(20)), is(0, c(name(20))))
}

// P8.3: Names, and numbers of Args, that do not fit.
func TestNoFit(t *testing.T) {
	a, b := c("A"), c("B")
	checkNone(t, a, b)
	checkNone(t, a, c("A", h(0)))
	checkNone(t, c("A", h(0)), c("A", h(0), h(0)))
	checkNone(t, c("A", h(0)), c("B", h(0)))
	checkNone(t, c("A", h(0), h(1)), c("A", h(0)))
	checkNone(t, fn(h(0), h(1)), c("->"))
	checkNone(t, fn(h(0), h(1)), c("->", h(0)))
	checkNone(t, fn(h(0), h(1)), c("->", h(0), h(1), h(2)))
	checkNone(t, fn(h(0), h(1)), c("T", h(0), h(1)))
	checkNone(t, c("T", h(0), a), c("T", a, b))
	checkNone(t, c("T", a, h(0)), c("T", b, a))
	checkNone(t, c("T", c("U", c("V", a))), c("T", c("U", c("V", b))))
	checkNone(t, c("a"), a)
	checkNone(t, c(name(19)), c(name(20)))
	// By way of holes: 0 would be A and B.
	checkNone(t, c("P", h(0), h(0)), c("P", a, b))
	checkNone(t, c("P", h(0), h(0), h(1)), c("P", h(1), a, b))
	checkNone(t, c("P", h(0), h(1), h(2), h(0)), c("P", h(1), h(2), a, b))
	checkNone(t, c("P", c("T", h(0)), h(0)), c("P", h(1), a, h(1)))
	checkNone(t, c("P", c("T", h(0)), h(0), h(1)), c("P", h(1), a, c("T", b)))
	checkNone(t, c("P", h(0), h(0)), c("P", c("T", h(1)), c("T", h(1), h(1))))
	checkNone(t, c("P", h(0), h(0), h(1)), c("P", c("T", h(1)), c("T", h(2)), fn(h(2), h(1))))
}

// P8.3: holes that are one with others: the least number, of each but that one, in every order.
func TestHolesThatAreOne(t *testing.T) {
	checkFacts(t, h(3), h(1), is(3, h(1)))
	checkFacts(t, h(0), h(math.MaxInt), is(math.MaxInt, h(0)))
	checkFacts(t, c("P", h(0), h(1), h(2)), c("P", h(1), h(2), h(0)), is(1, h(0)), is(2, h(0)))
	checkFacts(t, c("P", h(9), h(7), h(5), h(8)), c("P", h(7), h(5), h(6), h(9)), is(6, h(5)), is(7, h(5)), is(8, h(5)), is(9, h(5)))
	checkFacts(t, c("P", h(4), h(1)), c("P", h(3), h(2)), is(2, h(1)), is(4, h(3)))
	// In what others are, too.
	checkFacts(t, c("P", h(4), h(1)), c("P", c("T", h(1), h(2)), h(0)), is(1, h(0)), is(4, c("T", h(0), h(2))))
	checkFacts(t, c("P", h(0), h(3)), c("P", c("T", h(3)), h(2)), is(0, c("T", h(2))), is(3, h(2)))
	numbers := []int{2, 5, 26, 30}
	for _, order := range orders(numbers) {
		for _, ties := range orders([]int{0, 1, 2}) {
			a, b := c("P"), c("P")
			for _, i := range ties {
				a.Args, b.Args = append(a.Args, h(order[i])), append(b.Args, h(order[i+1]))
			}
			checkFacts(t, a, b, is(5, h(2)), is(26, h(2)), is(30, h(2)))
			// With a type for one of them, it is that of them all.
			for _, n := range numbers {
				x := fn(c("A"), h(1))
				for _, at := range []int{0, 1, 3} {
					d, e := c("P", slices.Insert(slices.Clone(a.Args), at, h(n))...), c("P", slices.Insert(slices.Clone(b.Args), at, x)...)
					checkFacts(t, d, e, is(2, x), is(5, x), is(26, x), is(30, x))
				}
			}
		}
	}
}

// orders are all orders of numbers.
func orders(l []int) [][]int {
	if len(l) == 0 {
		return [][]int{nil}
	}
	var all [][]int
	for i := range l {
		for _, o := range orders(slices.Delete(slices.Clone(l), i, i+1)) {
			all = append(all, append([]int{l[i]}, o...))
		}
	}
	return all
}

// P8.3: facts by rising N, whatever the places, in whose types no hole stands of which there is a fact.
func TestFactsInOrder(t *testing.T) {
	a := c("A")
	checkFacts(t, fn(h(0), h(1)), fn(c("T", h(1)), a), is(0, c("T", a)), is(1, a))
	checkFacts(t, fn(h(1), h(0)), fn(a, c("T", h(1))), is(0, c("T", a)), is(1, a))
	checkFacts(t, c("P", h(5), h(3), h(4)), c("P", c("B"), a, c("D")), is(3, a), is(4, c("D")), is(5, c("B")))
	checkFacts(t, c("P", h(2), h(1)), c("P", h(1), a), is(1, a), is(2, a))
	checkFacts(t, c("P", h(0), h(1), h(2)), c("P", fn(h(1), h(1)), fn(h(2), h(3)), c("T", h(3))), is(0, fn(fn(c("T", h(3)), h(3)), fn(c("T", h(3)), h(3)))), is(1, fn(c("T", h(3)), h(3))), is(2, c("T", h(3))))
	checkFacts(t, c("P", h(26), h(25)), c("P", c("T", h(25)), c("T", h(0))), is(25, c("T", h(0))), is(26, c("T", c("T", h(0)))))
	checkFacts(t, c("P", h(7), h(7)), c("P", c("T", h(8), a), c("T", c("B"), h(9))), is(7, c("T", c("B"), a)), is(8, c("B")), is(9, a))
}

// P8.3: a hole within what it would be, at once, and by other holes.
func TestWithinItself(t *testing.T) {
	for _, n := range []int{0, 3, math.MaxInt} {
		for _, outer := range []api.Type{c("T", h(n)), fn(c("A"), h(n)), fn(h(n), c("A")), c("P", h(1), c("Q", c("R", h(n)))), chain(59, h(n))} {
			checkNone(t, h(n), outer)
			checkNone(t, c("T", outer), c("T", h(n)))
			checkNone(t, c("P", h(n), h(1)), c("P", h(1), outer))
		}
	}
	checkNone(t, fn(h(0), h(0)), fn(h(1), c("T", h(1))))
	checkNone(t, c("P", h(0), h(1)), c("P", c("T", h(1)), c("T", h(0))))
	checkNone(t, c("P", h(0), h(1), h(2)), c("P", c("T", h(1)), c("U", h(2)), fn(c("A"), h(0))))
	checkNone(t, c("P", h(0), h(1), h(2), h(0)), c("P", h(1), h(2), c("T", h(3)), h(3)))
	checkNone(t, c("P", c("T", h(0)), h(0)), c("P", h(1), h(1)))
	checkNone(t, c("P", c("T", h(0)), c("T", c("T", h(0)))), c("P", h(1), h(1)))
	checkNone(t, c("T", c("T", h(0))), c("T", h(0)))
	checkNone(t, c("P", h(0), h(0)), c("P", c("T", h(1)), h(1)))
	// A ring of 500 holes.
	a, b := c("P"), c("P")
	for i := range 500 {
		a.Args, b.Args = append(a.Args, h(i)), append(b.Args, c("T", h((i+1)%500)))
	}
	checkNone(t, a, b)
}

// P8.3: a fact's type as deep as may be, and deeper.
func TestFactDepth(t *testing.T) {
	a := c("A")
	checkFacts(t, h(0), chain(59, a), is(0, chain(59, a)))
	checkFacts(t, h(0), chain(59, h(1)), is(0, chain(59, h(1))))
	for _, last := range []api.Type{a, h(3)} {
		for first := 1; first < 58; first++ {
			for more := -1; more <= 1; more++ {
				x, y := c("P", h(0), h(1)), c("P", chain(first, h(1)), chain(59+more-first, last))
				if more > 0 {
					checkNone(t, x, y)
					checkNone(t, c("P", h(1), h(0)), c("P", y.Args[1], y.Args[0]))
				} else {
					checkFacts(t, x, y, is(0, chain(59+more, last)), is(1, chain(59+more-first, last)))
				}
			}
		}
	}
	// Holes behind each other, 59 of them, and one more.
	for _, many := range []int{59, 60, 61, 600} {
		x, y, want := c("P"), c("P"), []api.Fact(nil)
		for i := range many {
			x.Args, y.Args = append(x.Args, h(i)), append(y.Args, c("T", h(i+1)))
			want = append(want, is(i, chain(many-i, h(many))))
		}
		if many == 59 {
			checkFacts(t, x, y, want...)
		} else {
			checkNone(t, x, y)
		}
	}
}

// P8.3: that the two, made one, would be too deep, or too great, does not matter, if no fact's type is.
func TestWholeMayBeDeeper(t *testing.T) {
	two := chain(2, c("A"))
	checkFacts(t, c("P", h(0), chain(58, h(0))), c("P", two, chain(58, h(0))), is(0, two))
	some := broad(9, c("A"))
	x, y := broad(1000, h(0)), broad(1000, h(0))
	y.Args = append([]api.Type{some}, y.Args[1:]...)
	checkFacts(t, x, y, is(0, some))
}

// P8.3: a fact's type of as many parts as may be, and of one more.
func TestFactParts(t *testing.T) {
	a, asked := c("A"), 0
	checkFacts(t, h(0), broad(1999, a), is(0, broad(1999, a)))
	for _, last := range []api.Type{a, h(5)} {
		for _, split := range []struct{ holes, parts int }{{2, 999}, {10, 199}, {998, 2}, {500, 3}, {37, 54}, {1999, 1}} {
			for _, size := range []int{1998, 1999, 2000, 2001, 2002} {
				// A hole so many times, which is a type of so many parts, and others behind.
				others := slices.Repeat([]api.Type{last}, max(0, size-1-split.holes*split.parts))
				if split.holes*split.parts+len(others)+1 != size || split.holes+len(others) > 1990 {
					continue
				}
				of := broad(split.parts-1, last)
				args, put := slices.Repeat([]api.Type{h(1)}, split.holes), slices.Repeat([]api.Type{of}, split.holes)
				x, y := c("P", h(0), h(1)), c("P", c("Q", append(args, others...)...), of)
				asked++
				if size > 2000 {
					checkNone(t, x, y)
				} else {
					checkFacts(t, x, y, is(0, c("Q", append(put, others...)...)), is(1, of))
				}
			}
		}
	}
	if asked != 46 {
		t.Errorf("%d asked", asked)
	}
	checkNone(t, c("P", h(0), h(1)), c("P", broad(1990, h(1)), c("T", h(2))))
}

// double is a type that is the hole behind it twice, so many times; of the last one nothing is known.
func double(many, from, by int) (api.Type, api.Type) {
	a, b := c("P"), c("P")
	for i := range many {
		a.Args, b.Args = append(a.Args, h(from+i*by)), append(b.Args, fn(h(from+i*by+by), h(from+i*by+by)))
	}
	return a, b
}

// P8.3: holes each of which is the next one twice: 2000 parts are less than 11 of them are.
func TestDoubles(t *testing.T) {
	for _, many := range []int{1, 2, 9, 10, 11, 12, 400} {
		a, b := double(many, 0, 1)
		if many >= 10 {
			checkNone(t, a, b)
			continue
		}
		last, want := h(many), make([]api.Fact, many)
		for i := many - 1; i >= 0; i-- {
			last = fn(last, last)
			want[i] = is(i, last)
		}
		checkFacts(t, a, b, want...)
	}
}

// R1: what would take as many steps as there are parts in what is made, ends.
func TestEnds(t *testing.T) {
	// Two towers of twos, one beside the other, made one at their tops, whose levels do not meet at holes.
	const many = 90
	a, b := c("P"), c("P")
	four := func(n int) api.Type { return fn(fn(h(n), h(n)), fn(h(n), h(n))) }
	for i := range many {
		a.Args, b.Args = append(a.Args, h(2*i), h(2*i+1)), append(b.Args, four(2*i+2), four(2*i+3))
	}
	checkNone(t, c("Q", a, h(0)), c("Q", b, fn(h(1), h(1))))
	checkNone(t, c("Q", h(0), a), c("Q", fn(h(1), h(1)), b))
	// The same, with holes that meet.
	d, e := double(150, 0, 2)
	f, g := double(150, 1, 2)
	checkNone(t, c("Q", d, f, h(0)), c("Q", e, g, h(1)))
	checkNone(t, c("Q", h(0), d, f), c("Q", h(1), e, g))
}

// P8.3: as many holes as there can be, all of them one.
func TestManyHoles(t *testing.T) {
	a, b, want := c("P"), c("P"), []api.Fact(nil)
	for i := range 1999 {
		a.Args, b.Args = append(a.Args, h(4000-i)), append(b.Args, h(4000-i-1))
		want = append(want, is(2002+i, h(2001)))
	}
	checkFacts(t, a, b, want...)
	// Each of many holes a great type.
	x, y := c("P"), c("P")
	for i := range 1000 {
		x.Args, y.Args = append(x.Args, h(i)), append(y.Args, h(i+1))
	}
	great := broad(990, h(5000))
	x.Args, y.Args = append(x.Args, h(500)), append(y.Args, great)
	if l, err := Unify(x, y); err != api.OK || len(l) != 1001 || !alike(l[0].Ty, great) || !alike(l[1000].Ty, great) {
		t.Errorf("%d, %d", err, len(l))
	}
}
