package scheme

import (
	"fmt"
	"math"
	"slices"
	"strings"
	"testing"

	"dawdler/api"
	"dawdler/ty"
)

// h is a hole, c a type with a Name, fn a function, all a scheme.
func h(n int) api.Type                      { return api.Type{N: n} }
func c(s string, l ...api.Type) api.Type    { return api.Type{Name: s, Args: l} }
func fn(a, b api.Type) api.Type             { return c("->", a, b) }
func all(t api.Type, l ...int) api.Scheme   { return api.Scheme{All: l, Ty: t} }
func chain(levels int, t api.Type) api.Type { return nested("T", levels, t) }
func broad(many int, t api.Type) api.Type   { return c("T", slices.Repeat([]api.Type{t}, many)...) }
func nested(s string, n int, t api.Type) api.Type {
	for range n {
		t = c(s, t)
	}
	return t
}

// row is a type of holes of these numbers.
func row(l ...int) api.Type {
	t := c("R")
	for _, n := range l {
		t.Args = append(t.Args, h(n))
	}
	return t
}

// upTo are the numbers from 0 on, so many.
func upTo(many int) []int {
	var l []int
	for n := range many {
		l = append(l, n)
	}
	return l
}

// alike tells whether two types are the same; an empty list is as good as none.
func alike(a, b api.Type) bool {
	return a.Name == b.Name && a.N == b.N && slices.EqualFunc(a.Args, b.Args, alike)
}

func alikeSchemes(a, b api.Scheme) bool { return slices.Equal(a.All, b.All) && alike(a.Ty, b.Ty) }

// short is a type's text, cut off, for reports: of those that may not be, too.
func short(t api.Type) string {
	var b strings.Builder
	var down func(api.Type, int)
	down = func(t api.Type, depth int) {
		fmt.Fprintf(&b, "(%.30q %d", t.Name, t.N)
		for _, arg := range t.Args {
			if b.Len() > 100 || depth > 100 {
				b.WriteString(" ..")
				break
			}
			down(arg, depth+1)
		}
		b.WriteString(")")
	}
	down(t, 0)
	return b.String()
}

func shortScheme(s api.Scheme) string {
	return fmt.Sprintf("for all %v %s", s.All[:min(len(s.All), 20)], short(s.Ty))
}

// checkScheme asks that a scheme may be, and which holes are free in it.
func checkScheme(t *testing.T, s api.Scheme, free ...int) {
	t.Helper()
	if !Check(s) || !slices.Equal(Free(s), free) {
		t.Errorf("%s: %v, %v; want %v", shortScheme(s), Check(s), Free(s), free)
	}
}

// checkNoScheme asks that of a scheme that may not be nothing is told, wherever it is handed in.
func checkNoScheme(t *testing.T, s api.Scheme) {
	t.Helper()
	if Check(s) || len(Free(s)) != 0 {
		t.Errorf("%s may not be: %v", shortScheme(s), Free(s))
	}
	for _, next := range []int{0, 7, 1<<31 - 1, -1, 1 << 31} {
		checkNotOpened(t, s, next)
	}
	fine := all(fn(h(0), h(1)), 1)
	for _, x := range []api.Type{h(0), c("A"), fn(h(2), h(3))} {
		checkNotClosed(t, x, s)
		checkNotClosed(t, x, fine, s)
		checkNotClosed(t, x, s, fine)
		checkNotClosed(t, x, fine, s, fine)
	}
}

func checkNotOpened(t *testing.T, s api.Scheme, next int) {
	t.Helper()
	x, n, err := Open(s, next)
	if err != api.ErrTy || n != 0 || !alike(x, api.Type{}) {
		t.Errorf("%s, opened from %d: %s, %d, %d", shortScheme(s), next, short(x), n, err)
	}
}

func checkNotClosed(t *testing.T, x api.Type, beside ...api.Scheme) {
	t.Helper()
	s, err := Close(x, beside...)
	if err != api.ErrTy || len(s.All) != 0 || !alike(s.Ty, api.Type{}) {
		t.Errorf("%s, closed beside %d: %s, %d", short(x), len(beside), shortScheme(s), err)
	}
}

func checkClosed(t *testing.T, want api.Scheme, beside ...api.Scheme) {
	t.Helper()
	s, err := Close(want.Ty, beside...)
	if err != api.OK || !alikeSchemes(s, want) || !Check(s) {
		t.Errorf("%s, %d; want %s", shortScheme(s), err, shortScheme(want))
	}
}

func checkOpened(t *testing.T, s api.Scheme, next int, want api.Type) {
	t.Helper()
	x, n, err := Open(s, next)
	if err != api.OK || n != next+len(s.All) || !alike(x, want) || !ty.Check(x) {
		t.Errorf("%s, opened from %d: %s, %d, %d; want %s", shortScheme(s), next, short(x), n, err, short(want))
	}
}

// P9.1: schemes of no holes, of all of theirs, and of some, in any order, and what is free then, by first places.
func TestFree(t *testing.T) {
	x := fn(h(3), fn(h(1), fn(h(3), h(2))))
	checkScheme(t, all(x), 3, 1, 2)
	checkScheme(t, all(x, 3), 1, 2)
	checkScheme(t, all(x, 1), 3, 2)
	checkScheme(t, all(x, 2), 3, 1)
	checkScheme(t, all(x, 3, 1), 2)
	checkScheme(t, all(x, 1, 3), 2)
	checkScheme(t, all(x, 2, 1), 3)
	for _, l := range [][]int{{3, 1, 2}, {3, 2, 1}, {1, 2, 3}, {1, 3, 2}, {2, 1, 3}, {2, 3, 1}} {
		checkScheme(t, all(x, l...))
	}
	checkScheme(t, all(row(9, 7, 9, 8, 7, 0, 9, 3), 3, 9), 7, 8, 0)
	checkScheme(t, all(row(0, 1, 2, 3, 4), 4, 2, 0), 1, 3)
	checkScheme(t, all(row(4, 3, 2, 1, 0), 0, 2, 4), 3, 1)
	checkScheme(t, all(row(5, 5, 5, 5), 5))
	checkScheme(t, all(row(5, 5, 5, 5)), 5)
}

// P9.1: schemes of types that are one part, and of the greatest types.
func TestPlainSchemes(t *testing.T) {
	checkScheme(t, api.Scheme{}, 0)
	checkScheme(t, api.Scheme{All: []int{}, Ty: h(0)}, 0)
	checkScheme(t, all(h(0), 0))
	checkScheme(t, all(h(math.MaxInt), math.MaxInt))
	checkScheme(t, all(h(math.MaxInt)), math.MaxInt)
	checkScheme(t, all(c("Int")))
	checkScheme(t, api.Scheme{All: []int{}, Ty: c("Int")})
	checkScheme(t, all(fn(c("Int"), c("IO", c("Unit")))))
	checkScheme(t, all(chain(59, h(4)), 4))
	checkScheme(t, all(broad(1999, h(4))), 4)
	many := upTo(1999)
	checkScheme(t, all(row(many...), many...))
	checkScheme(t, all(row(many...)), many...)
	checkScheme(t, all(row(many...), many[:1998]...), 1998)
	slices.Reverse(many)
	checkScheme(t, all(row(many...), many...))
}

// P9.1, P9.2: All of a hole twice, or one that the type has not.
func TestWrongAll(t *testing.T) {
	x := fn(h(3), fn(h(1), h(3)))
	for _, l := range [][]int{{3, 3}, {1, 1}, {3, 1, 3}, {3, 1, 1}, {1, 3, 1, 3}, {2}, {0}, {3, 2}, {2, 3}, {3, 1, 2}, {3, 1, 0}, {-1}, {3, -1}, {math.MaxInt}, {math.MinInt}, {4}, {1, 3, 4}} {
		checkNoScheme(t, all(x, l...))
	}
	checkNoScheme(t, all(c("Int"), 0))
	checkNoScheme(t, all(c("Int"), 0, 0))
	checkNoScheme(t, all(h(0), 1))
	checkNoScheme(t, all(h(1), 0))
	checkNoScheme(t, all(h(0), 0, 0))
	checkNoScheme(t, all(h(0), upTo(100000)...))
	checkNoScheme(t, all(row(upTo(1999)...), upTo(2000)...))
	checkNoScheme(t, all(row(upTo(1999)...), append(upTo(1999), 1998)...))
}

// wrongTypes are types that may not be, and some that hold one.
func wrongTypes() []api.Type {
	l := []api.Type{
		{N: -1}, {N: math.MinInt}, {Args: []api.Type{h(0)}}, {Name: "T", N: 1}, {Name: "T", N: -1, Args: []api.Type{h(0)}}, c(strings.Repeat("n", 21)),
		chain(60, h(0)), chain(200, h(0)), broad(2000, h(0)), broad(1<<17, h(0)),
	}
	for _, x := range slices.Clone(l) {
		l = append(l, fn(x, h(0)), fn(h(0), x), c("T", c("A"), c("T", h(0), x), h(0)))
	}
	// One that holds itself, at the second place.
	self := c("T", h(0), c("T"))
	self.Args[1].Args = self.Args
	return append(l, self)
}

// P9.1, P9.2: types that may not be, in a scheme, as what is closed, and in one of those beside.
func TestWrongTypes(t *testing.T) {
	for _, x := range wrongTypes() {
		checkNoScheme(t, all(x))
		checkNoScheme(t, all(x, 0))
		checkNoScheme(t, all(x, 0, 0))
		checkNoScheme(t, all(x, -1))
		checkNotClosed(t, x)
		checkNotClosed(t, x, all(h(0)), all(h(1), 1))
		checkNotClosed(t, x, all(x))
	}
}

// P9.2: what is closed beside nothing is for all its holes, by their first place.
func TestCloseBesideNothing(t *testing.T) {
	checkClosed(t, all(fn(h(3), fn(h(1), h(3))), 3, 1))
	checkClosed(t, all(row(9, 7, 9, 8, 7, 0, 9, 3), 9, 7, 8, 0, 3))
	checkClosed(t, all(h(0), 0))
	checkClosed(t, all(h(math.MaxInt), math.MaxInt))
	checkClosed(t, all(c("Int")))
	checkClosed(t, all(fn(c("Int"), c("IO", c("Unit")))))
	checkClosed(t, all(row(5, 5, 5, 5), 5))
	checkClosed(t, all(chain(59, h(4)), 4))
	checkClosed(t, all(row(upTo(1999)...), upTo(1999)...))
	if s, err := Close(fn(h(1), h(0)), []api.Scheme{}...); err != api.OK || !alikeSchemes(s, all(fn(h(1), h(0)), 1, 0)) {
		t.Errorf("%s, %d", shortScheme(s), err)
	}
}

// P9.2: beside others it is not for what is free in one of these. What stands there, and is not free, does not matter.
func TestCloseBeside(t *testing.T) {
	x := fn(h(3), fn(h(1), fn(h(3), h(2))))
	checkClosed(t, all(x, 3, 1, 2), all(c("Int")))
	checkClosed(t, all(x, 1, 2), all(h(3)))
	checkClosed(t, all(x, 3, 2), all(h(1)))
	checkClosed(t, all(x, 3, 1), all(h(2)))
	checkClosed(t, all(x, 3, 1, 2), all(h(3), 3))
	checkClosed(t, all(x, 3, 1, 2), all(h(0)))
	checkClosed(t, all(x), all(row(1, 2, 3)))
	checkClosed(t, all(x), all(x))
	checkClosed(t, all(x, 3, 1, 2), all(x, 2, 1, 3))
	checkClosed(t, all(x, 1), all(x, 1))
	checkClosed(t, all(x, 3, 2), all(fn(h(3), h(1)), 3))
	checkClosed(t, all(x, 1, 2), all(fn(h(3), h(1)), 1))
	checkClosed(t, all(c("Int")), all(h(1)), all(h(0)))
	checkClosed(t, all(h(0), 0), all(h(1)))
	checkClosed(t, all(h(0)), all(h(0)))
}

// P9.2: what is free in one of several is free, where it is not in others, and where it stands in others that it is not free in.
func TestCloseBesideSeveral(t *testing.T) {
	x := fn(h(3), fn(h(1), fn(h(3), h(2))))
	checkClosed(t, all(x, 2), all(h(3)), all(h(1)))
	checkClosed(t, all(x), all(h(3)), all(h(1)), all(h(2)))
	checkClosed(t, all(x, 1, 2), all(h(3)), all(h(3), 3))
	checkClosed(t, all(x, 1, 2), all(h(3), 3), all(h(3)))
	checkClosed(t, all(x, 1, 2), all(h(3)), all(c("Int")), all(h(3)), all(h(7), 7))
	checkClosed(t, all(x, 3, 1, 2), all(h(3), 3), all(x, 1, 2, 3), all(h(9)))
	checkClosed(t, all(x, 1), all(x, 1), all(x, 1, 2))
	checkClosed(t, all(x), all(x, 1, 2), all(x, 3, 1), all(x, 3, 2))
	var beside []api.Scheme
	for n := range 1000 {
		beside = append(beside, all(fn(h(2*n), h(2*n+1)), 2*n+1))
	}
	var odd []int
	for n := range 1000 {
		odd = append(odd, 2*n+1)
	}
	checkClosed(t, all(row(upTo(1999)...), odd[:999]...), beside...)
}

// P9.2: what is opened has new holes by All's order, whatever their first places, and keeps those that are free.
func TestOpen(t *testing.T) {
	x := fn(h(3), fn(h(1), fn(h(3), h(2))))
	checkOpened(t, all(x), 7, x)
	checkOpened(t, all(x, 3), 7, fn(h(7), fn(h(1), fn(h(7), h(2)))))
	checkOpened(t, all(x, 1), 7, fn(h(3), fn(h(7), fn(h(3), h(2)))))
	checkOpened(t, all(x, 3, 1, 2), 7, fn(h(7), fn(h(8), fn(h(7), h(9)))))
	checkOpened(t, all(x, 2, 1, 3), 7, fn(h(9), fn(h(8), fn(h(9), h(7)))))
	checkOpened(t, all(x, 2, 3), 7, fn(h(8), fn(h(1), fn(h(8), h(7)))))
	checkOpened(t, all(c("Int")), 7, c("Int"))
	checkOpened(t, all(h(0)), 7, h(0))
	checkOpened(t, all(h(0), 0), 7, h(7))
	checkOpened(t, all(h(math.MaxInt), math.MaxInt), 7, h(7))
	checkOpened(t, all(h(math.MaxInt)), 7, h(math.MaxInt))
}

// P9.2: a hole may have the number that is put in another one's place, or in its own; and what is put may be one that is free, too.
func TestOpenAtOnce(t *testing.T) {
	checkOpened(t, all(row(0, 1, 2), 1, 0), 0, row(1, 0, 2))
	checkOpened(t, all(row(0, 1, 2), 2, 1, 0), 0, row(2, 1, 0))
	checkOpened(t, all(row(0, 1, 2), 0, 1, 2), 0, row(0, 1, 2))
	checkOpened(t, all(row(0, 1, 2), 0, 1, 2), 1, row(1, 2, 3))
	checkOpened(t, all(row(0, 1, 2), 2, 0, 1), 1, row(2, 3, 1))
	checkOpened(t, all(row(8, 7, 8, 9), 9, 8), 7, row(8, 7, 8, 7))
	checkOpened(t, all(row(4, 5), 4), 5, row(5, 5))
	checkOpened(t, all(row(1, 2, 3, 4, 5), 5, 3, 1), 1, row(3, 2, 2, 4, 1))
}

// P9.2: from which number on it is opened.
func TestOpenFrom(t *testing.T) {
	const most = 1<<31 - 1
	x := fn(h(3), fn(h(1), h(3)))
	s := all(x, 3, 1)
	checkOpened(t, s, 0, fn(h(0), fn(h(1), h(0))))
	checkOpened(t, s, 1, fn(h(1), fn(h(2), h(1))))
	checkOpened(t, s, most, fn(h(most), fn(h(most+1), h(most))))
	checkOpened(t, s, most-1, fn(h(most-1), fn(h(most), h(most-1))))
	checkOpened(t, all(x), 0, x)
	checkOpened(t, all(x), most, x)
	checkOpened(t, all(c("Int")), most, c("Int"))
	many := upTo(1999)
	var want []int
	for _, n := range many {
		want = append(want, most+n)
	}
	checkOpened(t, all(row(many...), many...), most, row(want...))
	for _, next := range []int{-1, -2, math.MinInt, 1 << 31, 1<<31 + 1, 1 << 32, math.MaxInt} {
		checkNotOpened(t, s, next)
		checkNotOpened(t, all(x), next)
		checkNotOpened(t, all(c("Int")), next)
		checkNotOpened(t, api.Scheme{}, next)
	}
}

// P9.4: what is closed beside nothing has nothing that is free; opened, it is the type, but for its holes' numbers.
func TestClosedThenOpened(t *testing.T) {
	for _, x := range []api.Type{h(0), h(9), c("Int"), fn(h(3), fn(h(1), h(3))), row(9, 7, 9, 8, 7, 0, 9, 3), chain(59, h(4)), row(upTo(1999)...), broad(1999, h(4))} {
		checkSameAgain(t, x, 0)
		checkSameAgain(t, x, 3)
		checkSameAgain(t, x, 1<<31-1)
	}
}

func checkSameAgain(t *testing.T, x api.Type, next int) {
	t.Helper()
	s, err := Close(x)
	if err != api.OK || len(Free(s)) != 0 || !slices.Equal(s.All, ty.Holes(x)) {
		t.Errorf("%s: %s, %d", short(x), shortScheme(s), err)
	}
	y, n, err := Open(s, next)
	if err != api.OK || n != next+len(ty.Holes(x)) || !alike(ty.Canon(y), ty.Canon(x)) {
		t.Errorf("%s: %s, %d, %d", short(x), short(y), n, err)
	}
	if next == 0 && !alike(y, ty.Canon(x)) {
		t.Errorf("%s: %s", short(x), short(y))
	}
}
