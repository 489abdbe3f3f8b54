package ty

import (
	"fmt"
	"math"
	"slices"
	"strings"
	"testing"

	"dawdler/api"
)

// h is a hole, c a type with a Name, fn a function.
func h(n int) api.Type                   { return api.Type{N: n} }
func c(s string, l ...api.Type) api.Type { return api.Type{Name: s, Args: l} }
func fn(a, b api.Type) api.Type          { return c("->", a, b) }

// alike tells whether two types are the same; an empty list is as good as none.
func alike(a, b api.Type) bool {
	return a.Name == b.Name && a.N == b.N && slices.EqualFunc(a.Args, b.Args, alike)
}

// short is a type's text, cut off, for reports: of those that may not be, too.
func short(t api.Type) string {
	var b strings.Builder
	var down func(api.Type, int)
	down = func(t api.Type, depth int) {
		fmt.Fprintf(&b, "(%.30q %d", t.Name, t.N)
		for _, arg := range t.Args {
			if b.Len() > 100 || depth > 100 {
				b.WriteString(" ..")
				break
			}
			down(arg, depth+1)
		}
		b.WriteString(")")
	}
	down(t, 0)
	return b.String()
}

// chain is a type of just one part a level, around another one.
func chain(levels int, t api.Type) api.Type {
	for range levels {
		t = c("T", t)
	}
	return t
}

// broad is a type of one part more than asked, the others next to each other.
func broad(many int, t api.Type) api.Type { return c("T", slices.Repeat([]api.Type{t}, many)...) }

// name is one of so many bytes.
func name(many int) string { return strings.Repeat("n", many) }

// wrongTypes are types that may not be, as a whole.
func wrongTypes() []api.Type {
	return []api.Type{
		{N: -1}, {N: math.MinInt}, {Args: []api.Type{h(0)}}, {N: 3, Args: []api.Type{c("A")}}, {N: -1, Args: []api.Type{h(0)}},
		{Name: "T", N: 1}, {Name: "T", N: -1}, {Name: "T", N: math.MaxInt}, {Name: "->", N: 2, Args: []api.Type{h(0), h(1)}},
		c(name(21)), c(name(21), h(0)), c(name(1 << 20)), c(strings.Repeat("\x00", 21)),
		chain(60, h(0)), chain(60, c("A")), chain(61, c("A")), chain(200, h(1)),
		broad(2000, h(0)), broad(2000, c("A")), broad(2001, h(0)), broad(1<<17, c("A")),
	}
}

// wrapped are a type within others, at each place of some.
func wrapped(t api.Type) []api.Type {
	a := c("A")
	return []api.Type{c("T", t), fn(t, a), fn(a, t), c("P", a, t, a), c("P", a, a, c("Q", h(0), t)), fn(fn(a, t), a), chain(58, t)}
}

// P8.1: types that may be, and how deep, how great, and with which Names and numbers.
func TestCheck(t *testing.T) {
	right := []api.Type{
		{}, h(0), h(25), h(26), h(math.MaxInt), {N: 1, Args: []api.Type{}}, c("A"), c("a"), c("->"), c(name(1)), c(name(20)), c("\x00"), c(strings.Repeat("\xff", 20)), c(" "), c("()"),
		{Name: "A", Args: []api.Type{}}, c("T", h(0)), fn(h(0), h(0)), c("->", h(0)), c("->", h(0), h(1), h(2)), c(name(20), c(name(20), h(math.MaxInt))),
		chain(59, h(0)), chain(59, c("A")), chain(58, h(7)), fn(chain(58, h(0)), chain(58, h(1))), fn(h(0), chain(58, h(0))), fn(chain(58, h(0)), h(0)),
		broad(1999, h(0)), broad(1999, c("A")), broad(1998, h(1)), fn(broad(998, h(0)), broad(999, h(1))), fn(broad(999, h(0)), broad(998, h(1))), c("P", broad(1000, c("A")), broad(996, h(0)), h(0)),
	}
	for _, x := range right {
		if !Check(x) {
			t.Errorf("%s may be", short(x))
		}
	}
	for _, x := range wrongTypes() {
		checkNothing(t, x)
		for _, outer := range wrapped(x) {
			checkNothing(t, outer)
		}
	}
	// One part too many, or one level, however the others stand.
	for _, x := range []api.Type{fn(broad(999, h(0)), broad(999, h(1))), fn(broad(1000, h(0)), broad(998, h(1))), c("P", broad(1000, c("A")), broad(996, h(0)), h(0), h(0)), fn(h(0), chain(59, h(0))), fn(chain(59, h(0)), h(0)), fn(broad(100, h(0)), chain(59, h(0)))} {
		checkNothing(t, x)
	}
}

// checkNothing asks that of a type that may not be nothing is told, wherever it is handed in.
func checkNothing(t *testing.T, x api.Type) {
	t.Helper()
	if Check(x) || len(Holes(x)) != 0 || !alike(Canon(x), api.Type{}) || Text(x) != "" {
		t.Errorf("%s may not be: %v, %v, %s, %.80q", short(x), Check(x), Holes(x), short(Canon(x)), Text(x))
	}
	for _, l := range [][]api.Fact{nil, {{N: 0, Ty: c("A")}}} {
		if got := Apply(l, x); !alike(got, api.Type{}) {
			t.Errorf("%s may not be: %s", short(x), short(got))
		}
	}
	for _, y := range []api.Type{h(0), h(9), c("A"), x} {
		checkNone(t, x, y)
		checkNone(t, y, x)
	}
	for _, l := range [][]api.Fact{{{N: 5, Ty: x}}, {{N: 0, Ty: x}}, {{N: 7, Ty: c("A")}, {N: 7, Ty: x}}, {{N: 0, Ty: x}, {N: 0, Ty: c("A")}}} {
		if got := Apply(l, c("P", h(7), h(0))); !alike(got, api.Type{}) {
			t.Errorf("a fact of %s: %s", short(x), short(got))
		}
	}
}

// P8.1: holes, each once, by their first place.
func TestHoles(t *testing.T) {
	great := math.MaxInt
	for _, x := range []struct {
		t    api.Type
		want []int
	}{
		{h(0), []int{0}}, {h(great), []int{great}}, {c("A"), nil}, {c("T", c("A"), c("B")), nil}, {c("T", h(3), h(3)), []int{3}},
		{c("P", h(9), h(2), h(9), h(0), h(2)), []int{9, 2, 0}}, {fn(fn(h(4), h(1)), fn(h(1), h(0))), []int{4, 1, 0}}, {c("P", c("Q", h(26), h(25)), h(0), h(great), h(26)), []int{26, 25, 0, great}},
		{c("P", h(1), c("Q", h(0)), h(2)), []int{1, 0, 2}}, {c("P", c("Q", c("R", h(5))), h(4)), []int{5, 4}}, {chain(59, h(6)), []int{6}}, {broad(1999, h(8)), []int{8}},
	} {
		if got := Holes(x.t); !slices.Equal(got, x.want) {
			t.Errorf("%s: %v; want %v", short(x.t), got, x.want)
		}
	}
	many, want := c("T"), []int(nil)
	for i := range 1999 {
		many.Args, want = append(many.Args, h(5000-i*2)), append(want, 5000-i*2)
	}
	if got := Holes(many); !slices.Equal(got, want) {
		t.Errorf("%v", got)
	}
}

// P8.1: holes numbered by their first place.
func TestCanon(t *testing.T) {
	great := math.MaxInt
	for _, x := range []struct{ t, want api.Type }{
		{h(0), h(0)}, {h(great), h(0)}, {h(7), h(0)}, {c("A"), c("A")}, {c(name(20)), c(name(20))}, {c("->"), c("->")},
		{c("T", h(3), h(3)), c("T", h(0), h(0))}, {c("P", h(9), h(2), h(9), h(0), h(2)), c("P", h(0), h(1), h(0), h(2), h(1))},
		{fn(h(1), h(0)), fn(h(0), h(1))}, {fn(h(0), h(1)), fn(h(0), h(1))}, {c("P", h(1), h(2), h(0)), c("P", h(0), h(1), h(2))},
		{c("P", c("Q", h(26), c("A"), h(25)), h(0), h(great), h(26)), c("P", c("Q", h(0), c("A"), h(1)), h(2), h(3), h(0))},
		{chain(59, h(6)), chain(59, h(0))}, {broad(1999, h(8)), broad(1999, h(0))},
	} {
		if got := Canon(x.t); !alike(got, x.want) || !alike(Canon(got), x.want) {
			t.Errorf("%s: %s; want %s", short(x.t), short(got), short(x.want))
		}
	}
}

// P8.2: the first fact of a hole, at once.
func TestApply(t *testing.T) {
	a, great := c("A"), math.MaxInt
	type facts = []api.Fact
	for _, x := range []struct {
		l       facts
		t, want api.Type
	}{
		{nil, h(0), h(0)}, {nil, c("T", h(3), a), c("T", h(3), a)}, {facts{}, a, a},
		{facts{is(0, a)}, h(0), a}, {facts{is(0, a)}, h(1), h(1)}, {facts{is(1, a)}, h(0), h(0)}, {facts{is(great, a)}, h(great), a}, {facts{is(0, h(great))}, h(0), h(great)},
		{facts{is(0, a)}, c("T", h(0), h(1), h(0)), c("T", a, h(1), a)},
		// The first one of two, whatever the second one says.
		{facts{is(0, a), is(0, c("B"))}, h(0), a}, {facts{is(0, c("B")), is(0, a)}, h(0), c("B")}, {facts{is(0, h(0)), is(0, a)}, h(0), h(0)}, {facts{is(1, a), is(0, h(1)), is(1, c("B")), is(0, a)}, fn(h(0), h(1)), fn(h(1), a)},
		// What was put is not gone through again, by other facts or by its own.
		{facts{is(0, h(1)), is(1, a)}, h(0), h(1)}, {facts{is(1, a), is(0, h(1))}, h(0), h(1)}, {facts{is(0, h(1)), is(1, h(0))}, fn(h(0), h(1)), fn(h(1), h(0))},
		{facts{is(0, c("T", h(0)))}, h(0), c("T", h(0))}, {facts{is(0, c("T", h(0), h(1))), is(1, c("T", h(0)))}, fn(h(1), h(0)), fn(c("T", h(0)), c("T", h(0), h(1)))}, {facts{is(2, h(2))}, fn(h(2), h(3)), fn(h(2), h(3))},
		{facts{is(1, fn(a, h(2)))}, c("P", c("Q", h(1)), h(1)), c("P", c("Q", fn(a, h(2))), fn(a, h(2)))},
		{facts{is(0, chain(59, a))}, h(0), chain(59, a)}, {facts{is(0, a)}, chain(59, h(0)), chain(59, a)}, {facts{is(0, broad(1999, a))}, h(0), broad(1999, a)}, {facts{is(0, a)}, broad(1999, h(0)), broad(1999, a)},
		// No promise keeps what it comes to from being one that may not be.
		{facts{is(0, chain(59, a))}, chain(59, h(0)), chain(118, a)}, {facts{is(0, broad(1999, h(1)))}, fn(h(0), h(0)), fn(broad(1999, h(1)), broad(1999, h(1)))},
	} {
		if got := Apply(x.l, x.t); !alike(got, x.want) {
			t.Errorf("%v, %s: %s; want %s", len(x.l), short(x.t), short(got), short(x.want))
		}
	}
}

// P8.2: facts of numbers below 0, of any hole, behind others and of others.
func TestApplyBelow(t *testing.T) {
	a := c("A")
	for _, n := range []int{-1, -2, math.MinInt} {
		for _, l := range [][]api.Fact{{is(n, a)}, {is(0, a), is(n, a)}, {is(n, a), is(0, a)}, {is(0, a), is(1, a), is(n, h(0))}, {is(n, api.Type{N: -1})}} {
			for _, x := range []api.Type{h(0), h(1), c("B"), fn(h(0), h(1)), c("B", h(9))} {
				if got := Apply(l, x); !alike(got, api.Type{}) {
					t.Errorf("%d, %s: %s", n, short(x), short(got))
				}
			}
		}
	}
}

// P8.4: texts.
func TestText(t *testing.T) {
	a, b := c("A"), c("B")
	for _, x := range []struct {
		t    api.Type
		want string
	}{
		{h(0), "a"}, {h(1), "b"}, {h(25), "z"}, {h(26), "t26"}, {h(27), "t27"}, {h(100), "t100"}, {h(math.MaxInt), "t9223372036854775807"},
		{a, "A"}, {c("a"), "a"}, {c(name(20)), name(20)}, {c("\x00\xff"), "\x00\xff"}, {c("T", h(0)), "T a"}, {c("T", a, h(26), b), "T A t26 B"},
		{c("T", c("U", a)), "T (U A)"}, {c("T", c("U", a), b, c("V", c("W", h(2)), h(3))), "T (U A) B (V (W c) d)"},
		{fn(a, b), "A -> B"}, {fn(h(0), h(26)), "a -> t26"}, {fn(fn(a, b), a), "(A -> B) -> A"}, {fn(a, fn(b, a)), "A -> (B -> A)"}, {fn(c("T", h(5)), fn(h(2), h(5))), "(T f) -> (c -> f)"}, {fn(fn(a, b), fn(a, b)), "(A -> B) -> (A -> B)"},
		{c("->"), "->"}, {c("->", a), "-> A"}, {c("->", a, b, a), "-> A B A"}, {c("->", fn(a, b)), "-> (A -> B)"}, {c("->", fn(a, b), c("->"), h(0)), "-> (A -> B) -> a"}, {fn(c("->"), c("->", a)), "-> -> (-> A)"}, {c("T", fn(a, b)), "T (A -> B)"}, {c("T", c("->"), fn(a, a)), "T -> (A -> A)"},
		{c("-", a, b), "- A B"}, {c("->>", a, b), "->> A B"}, {c(" ", a, b), "  A B"}, {c("(", c(")", a)), "( () A)"},
		{chain(59, a), strings.Repeat("T (", 58) + "T A" + strings.Repeat(")", 58)}, {broad(1999, a), "T" + strings.Repeat(" A", 1999)},
	} {
		if got := Text(x.t); got != x.want {
			t.Errorf("%s: %.200q; want %.200q", short(x.t), got, x.want)
		}
	}
}

// P8.4: the 26 letters, and then numbers.
func TestTextOfHoles(t *testing.T) {
	for n := range 200 {
		want := fmt.Sprint("t", n)
		if n < 26 {
			want = "abcdefghijklmnopqrstuvwxyz"[n : n+1]
		}
		if got := Text(h(n)) + Text(c("T", h(n))); got != want+"T "+want {
			t.Errorf("%d: %q", n, got)
		}
	}
}

// R1: types that hold themselves, that are very deep, or have more parts than anybody can go through.
func TestHostile(t *testing.T) {
	for _, kind := range []api.Type{{Name: "T"}, {Name: "->"}, {}, {Name: "T", N: 1}} {
		for many := 1; many <= 3; many++ {
			self := kind
			self.Args = make([]api.Type, many)
			for i := range self.Args {
				self.Args[i] = self
			}
			checkNothing(t, self)
			deep := c("A")
			for range 1 << 16 {
				args := slices.Repeat([]api.Type{h(0)}, many)
				args[many-1] = deep
				deep = api.Type{Name: kind.Name, N: kind.N, Args: args}
			}
			checkNothing(t, deep)
			if many == 1 {
				continue
			}
			twice := h(0)
			for range 59 {
				twice = api.Type{Name: kind.Name, N: kind.N, Args: slices.Repeat([]api.Type{twice}, many)}
			}
			checkNothing(t, twice)
		}
	}
}

// R4: holes may be left early, at each of them, and gone through again.
func TestHolesAgain(t *testing.T) {
	l := holes(c("P", h(4), c("Q", h(2), c("R", h(5), h(4)), h(0)), h(3), h(2), h(1)))
	want := []int{4, 2, 5, 0, 3, 1}
	for range 2 {
		for last := range want {
			var got []int
			for place, n := range l {
				if place != len(got) {
					t.Errorf("%d is at the place %d", n, place)
				}
				got = append(got, n)
				if place == last {
					break
				}
			}
			if !slices.Equal(got, want[:last+1]) {
				t.Errorf("%v", got)
			}
		}
	}
}
