package scheme

import (
	"fmt"
	"slices"
	"strconv"
	"strings"
	"testing"

	"dawdler/api"
	"dawdler/ty"
)

func sig(s string, l ...api.Sig) api.Sig   { return api.Sig{Name: s, Args: l} }
func fun(a, b api.Sig) api.Sig             { return sig("->", a, b) }
func form(s string, l ...api.Sig) api.Form { return api.Form{Name: s, Args: l} }
func params(l ...string) []string          { return l }
func data(s string, p []string, l ...api.Form) api.Data {
	return api.Data{Name: s, Params: p, Forms: l}
}

// sigs is a written type of this depth, just one part a level.
func sigs(depth int, s api.Sig) api.Sig {
	for range depth - 1 {
		s = sig("IO", s)
	}
	return s
}

// numbered are texts that differ by their numbers, from 0 on.
func numbered(s string, many int) []string {
	var l []string
	for n := range many {
		l = append(l, s+strconv.Itoa(n))
	}
	return l
}

func assume(s string, t api.Type, l ...int) api.Assume { return api.Assume{Name: s, Is: all(t, l...)} }

func alikeAssumes(a, b api.Assume) bool { return a.Name == b.Name && alikeSchemes(a.Is, b.Is) }

func shortAssumes(l []api.Assume) string {
	var b strings.Builder
	for _, a := range l[:min(len(l), 8)] {
		b.WriteString(a.Name + ": " + shortScheme(a.Is) + "; ")
	}
	return b.String() + strconv.Itoa(len(l)) + " in all"
}

// shortDatas is what Datas say, cut off, as some hold more than anybody can read.
func shortDatas(l []api.Data) string {
	var b strings.Builder
	var down func([]api.Sig)
	down = func(l []api.Sig) {
		for _, s := range l {
			if b.Len() > 200 {
				return
			}
			fmt.Fprintf(&b, " (%q", s.Name)
			down(s.Args)
			b.WriteString(")")
		}
	}
	for _, d := range l {
		fmt.Fprintf(&b, "%q of %d:", d.Name, len(d.Params))
		for _, f := range d.Forms {
			fmt.Fprintf(&b, " %q", f.Name)
			down(f.Args)
		}
		b.WriteString("; ")
	}
	return b.String()[:min(b.Len(), 300)]
}

func checkOf(t *testing.T, l []api.Data, want ...api.Assume) {
	t.Helper()
	got, err := Of(l)
	if err != api.OK || !slices.EqualFunc(got, want, alikeAssumes) {
		t.Errorf("%s: %s, %d; want %s", shortDatas(l), shortAssumes(got), err, shortAssumes(want))
	}
	for _, a := range got {
		if !Check(a.Is) || len(Free(a.Is)) != 0 {
			t.Errorf("%s: %s, of which %v are free", shortDatas(l), shortScheme(a.Is), Free(a.Is))
		}
	}
}

func checkNotOf(t *testing.T, want api.Errno, l ...api.Data) {
	t.Helper()
	if got, err := Of(l); err != want || len(got) != 0 {
		t.Errorf("%s: %s, %d; want %d", shortDatas(l), shortAssumes(got), err, want)
	}
}

// P9.3: ordinary Datas, in order, and their Forms.
func TestOf(t *testing.T) {
	list := c("L", h(0))
	l := data("L", params("a"), form("N"), form("C", sig("a"), sig("L", sig("a"))))
	checkOf(t, []api.Data{l}, assume("N", list, 0), assume("C", fn(h(0), fn(list, list)), 0))
	p := data("P", params("a", "b"), form("P", sig("b"), sig("a")))
	checkOf(t, []api.Data{p}, assume("P", fn(h(1), fn(h(0), c("P", h(0), h(1)))), 0, 1))
	checkOf(t, []api.Data{p, l}, assume("P", fn(h(1), fn(h(0), c("P", h(0), h(1)))), 0, 1), assume("N", list, 0), assume("C", fn(h(0), fn(list, list)), 0))
	f := data("F", params("f"), form("F", fun(fun(sig("f"), sig("Int")), sig("IO", sig("f")))))
	checkOf(t, []api.Data{f}, assume("F", fn(fn(fn(h(0), c("Int")), c("IO", h(0))), c("F", h(0))), 0))
	// A function behind others is an Arg, and no more of them.
	g := data("G", nil, form("G", sig("Int"), fun(sig("Bool"), sig("Unit"))), form("H", fun(sig("Int"), fun(sig("Bool"), sig("Unit")))))
	checkOf(t, []api.Data{g}, assume("G", fn(c("Int"), fn(fn(c("Bool"), c("Unit")), c("G")))), assume("H", fn(fn(c("Int"), fn(c("Bool"), c("Unit"))), c("G"))))
}

// P9.3: no Datas, and Forms without Args.
func TestOfLittle(t *testing.T) {
	checkOf(t, nil)
	checkOf(t, []api.Data{})
	checkOf(t, []api.Data{data("T", nil, form("A"))}, assume("A", c("T")))
	checkOf(t, []api.Data{data("T", params(), form("A"), form("B"), form("C"))}, assume("A", c("T")), assume("B", c("T")), assume("C", c("T")))
	checkOf(t, []api.Data{data("T", nil, form("T"))}, assume("T", c("T")))
	checkOf(t, []api.Data{{Name: "T", Forms: []api.Form{{Name: "A", Args: []api.Sig{}}}}}, assume("A", c("T")))
}

// P9.3: Params that are not used are holes as the others are, by their own order and not by that of their use.
func TestParams(t *testing.T) {
	checkOf(t, []api.Data{data("T", params("a"), form("A"))}, assume("A", c("T", h(0)), 0))
	end := c("T", h(0), h(1), h(2))
	checkOf(t, []api.Data{data("T", params("a", "b", "c"), form("A"), form("B", sig("c")), form("C", sig("b"), sig("Int")), form("D", sig("c"), sig("a"), sig("c")))},
		assume("A", end, 0, 1, 2), assume("B", fn(h(2), end), 0, 1, 2), assume("C", fn(h(1), fn(c("Int"), end)), 0, 1, 2), assume("D", fn(h(2), fn(h(0), fn(h(2), end))), 0, 1, 2))
	end = c("T", h(0), h(1))
	checkOf(t, []api.Data{data("T", params("z", "a"), form("A", sig("a"), sig("z")))}, assume("A", fn(h(1), fn(h(0), end)), 0, 1))
	// One name is a Param of two Datas, at other places.
	checkOf(t, []api.Data{data("T", params("z", "a"), form("A", sig("a"))), data("U", params("a"), form("B", sig("a")))}, assume("A", fn(h(1), end), 0, 1), assume("B", fn(h(0), c("U", h(0))), 0))
}

// P9.3: Datas that name each other, themselves, and those that stand behind them.
func TestMutual(t *testing.T) {
	tree := data("Tree", params("a"), form("Node", sig("a"), sig("Wood", sig("a"))))
	wood := data("Wood", params("b"), form("End"), form("And", sig("Tree", sig("b")), sig("Wood", sig("b"))))
	node := assume("Node", fn(h(0), fn(c("Wood", h(0)), c("Tree", h(0)))), 0)
	end := assume("End", c("Wood", h(0)), 0)
	and := assume("And", fn(c("Tree", h(0)), fn(c("Wood", h(0)), c("Wood", h(0)))), 0)
	checkOf(t, []api.Data{tree, wood}, node, end, and)
	checkOf(t, []api.Data{wood, tree}, end, and, node)
	checkOf(t, []api.Data{data("T", nil, form("A", sig("T"), sig("T")))}, assume("A", fn(c("T"), fn(c("T"), c("T")))))
	checkOf(t, []api.Data{data("T", params("a"), form("A", sig("T", sig("T", sig("a")))))}, assume("A", fn(c("T", c("T", h(0))), c("T", h(0))), 0))
	checkOf(t, []api.Data{data("T", params("a"), form("A", sig("T", sig("Int"))))}, assume("A", fn(c("T", c("Int")), c("T", h(0))), 0))
}

// P9.3: given types, of as many as they are, and functions.
func TestGiven(t *testing.T) {
	l := []api.Sig{sig("Int"), sig("Bool"), sig("Unit"), sig("TVar", sig("Int")), sig("STM", sig("a")), sig("IO", sig("Unit")), fun(sig("a"), sig("Bool")), sig("TVar", sig("STM", fun(sig("IO", sig("a")), sig("Int"))))}
	types := []api.Type{c("Int"), c("Bool"), c("Unit"), c("TVar", c("Int")), c("STM", h(0)), c("IO", c("Unit")), fn(h(0), c("Bool")), c("TVar", c("STM", fn(c("IO", h(0)), c("Int"))))}
	end := c("T", h(0))
	whole := end
	for i, s := range l {
		checkOf(t, []api.Data{data("T", params("a"), form("A", s))}, assume("A", fn(types[i], end), 0))
		whole = fn(types[len(l)-1-i], whole)
	}
	checkOf(t, []api.Data{data("T", params("a"), form("A", l...))}, assume("A", whole, 0))
	// A given type's name is no given constructor's, nor the other way round, but for Unit.
	checkOf(t, []api.Data{data("True", nil, form("Int", sig("False"))), data("False", nil, form("IO", sig("True")))}, assume("Int", fn(c("False"), c("True"))), assume("IO", fn(c("True"), c("False"))))
}

// P9.3: ErrTree, if no program of these Datas may be, ahead of all else.
func TestOfNoProgram(t *testing.T) {
	fine := data("T", nil, form("A"))
	unit := data("Unit", nil, form("Unit"))
	long := strings.Repeat("N", 21)
	for _, d := range []api.Data{
		{}, data("T", nil), data("t", nil, form("A")), data("->", nil, form("A")), data(long, nil, form("A")), data("", nil, form("A")),
		data("T", params("A"), form("A")), data("T", params("a", "a"), form("A")), data("T", params("of"), form("A")), data("T", params(""), form("A")),
		data("T", nil, form("a")), data("T", nil, form("")), data("T", nil, form(long)), data("T", nil, form("A"), form("->")),
		data("T", params("a"), form("A", sig("a", sig("Int")))), data("T", nil, form("A", sig("->", sig("Int")))), data("T", nil, form("A", sig("->"))), data("T", nil, form("A", sig("->", sig("Int"), sig("Int"), sig("Int")))),
		data("T", nil, form("A", sig(""))), data("T", nil, form("A", sig("of"))), data("T", nil, form("A", sig("IO", sig(long)))), data("T", nil, form("A", sigs(31, sig("Int")))),
	} {
		checkNotOf(t, api.ErrTree, d)
		checkNotOf(t, api.ErrTree, fine, d)
		checkNotOf(t, api.ErrTree, d, fine)
		checkNotOf(t, api.ErrTree, unit, d)
		checkNotOf(t, api.ErrTree, d, unit, fine)
		checkNotOf(t, api.ErrTree, fine, fine, d)
	}
	// One that holds itself.
	self := sig("IO", sig("IO"))
	self.Args[0].Args = self.Args
	checkNotOf(t, api.ErrTree, data("T", nil, form("A", self)))
}

// P9.3: ErrName of a Data's Name.
func TestDataNames(t *testing.T) {
	for _, s := range []string{"Int", "Bool", "Unit", "TVar", "STM", "IO"} {
		checkNotOf(t, api.ErrName, data(s, nil, form("A")))
		checkNotOf(t, api.ErrName, data(s, params("a"), form("A")))
		checkNotOf(t, api.ErrName, data("T", nil, form("A")), data(s, params("a"), form("B")))
		checkNotOf(t, api.ErrName, data(s, params("a"), form("B")), data("T", nil, form("A")))
	}
	one, two, other := data("T", nil, form("A")), data("T", params("a"), form("B")), data("U", nil, form("C"))
	checkNotOf(t, api.ErrName, one, one)
	checkNotOf(t, api.ErrName, one, two)
	checkNotOf(t, api.ErrName, one, other, two)
	checkNotOf(t, api.ErrName, other, two, one)
	// A name that is given in other letters is none.
	checkOf(t, []api.Data{data("INT", nil, form("A")), data("Io", nil, form("B")), data("List", nil, form("C"))}, assume("A", c("INT")), assume("B", c("Io")), assume("C", c("List")))
}

// P9.3: ErrName of a Form's Name.
func TestFormNames(t *testing.T) {
	for _, s := range []string{"True", "False", "Unit"} {
		checkNotOf(t, api.ErrName, data("T", nil, form(s)))
		checkNotOf(t, api.ErrName, data("T", nil, form("A"), form(s, sig("Int"))))
		checkNotOf(t, api.ErrName, data("T", nil, form("A")), data("U", nil, form("B"), form(s)))
	}
	checkNotOf(t, api.ErrName, data("T", nil, form("A"), form("A")))
	checkNotOf(t, api.ErrName, data("T", nil, form("A"), form("B"), form("A", sig("Int"))))
	checkNotOf(t, api.ErrName, data("T", nil, form("A")), data("U", nil, form("A")))
	checkNotOf(t, api.ErrName, data("T", nil, form("B"), form("A")), data("V", nil, form("C")), data("U", params("a"), form("D"), form("A", sig("a"))))
	checkOf(t, []api.Data{data("T", nil, form("U")), data("U", nil, form("T"))}, assume("U", c("T")), assume("T", c("U")))
}

// wrongSigs name what there is none of, or have not as many Args as that is of, where T is of one, the Param a, and U of none.
func wrongSigs() []api.Sig {
	x := sig("Int")
	l := []api.Sig{sig("V"), sig("V", x), sig("True"), sig("A"), sig("Int", x), sig("Bool", x), sig("Unit", x), sig("U", x), sig("U", x, x), sig("b"), sig("int"), sig("u"), sig("aa"), sig("T"), sig("T", x, x)}
	for _, s := range []string{"TVar", "STM", "IO"} {
		l = append(l, sig(s), sig(s, x, x), sig(s, x, x, x))
	}
	return l
}

// P9.3: ErrName of a Sig, wherever in a Form it stands.
func TestSigNames(t *testing.T) {
	x, u := sig("Int"), data("U", nil, form("B", sig("Int")))
	for _, s := range wrongSigs() {
		for _, f := range []api.Form{form("A", s), form("A", x, s), form("A", s, x), form("A", x, x, s, s), form("A", sig("IO", s)), form("A", fun(s, x)), form("A", fun(x, s)), form("A", x, sig("T", fun(x, fun(x, sig("TVar", s)))), x)} {
			d := data("T", params("a"), f)
			checkNotOf(t, api.ErrName, d, u)
			checkNotOf(t, api.ErrName, u, d)
			checkNotOf(t, api.ErrName, data("T", params("a"), form("C"), f, form("D")), u)
		}
	}
	// Without its Data a name is none, and a Param is one in its own Data alone.
	checkNotOf(t, api.ErrName, data("T", nil, form("A", sig("U"))))
	checkNotOf(t, api.ErrName, data("T", params("a"), form("A")), data("U", nil, form("B", sig("a"))))
	checkNotOf(t, api.ErrName, data("T", nil, form("A", sig("a"))), data("U", params("a"), form("B")))
	checkNotOf(t, api.ErrName, data("T", params("a"), form("A", sig("a"))), data("U", params("b"), form("B", sig("a"))))
}

// P9.3: as many as there may be by MaxDefs, and one more.
func TestMaxDefs(t *testing.T) {
	for _, n := range []int{39, 40, 41, 1000} {
		var l []api.Data
		var want, forms []api.Assume
		d := data("T", nil)
		for i, s := range numbered("T", n) {
			l = append(l, data(s, nil, form("C"+s, sig("T"+strconv.Itoa(n-1-i)))))
			want = append(want, assume("C"+s, fn(c("T"+strconv.Itoa(n-1-i)), c(s))))
			d.Forms = append(d.Forms, form(s, sig("T")))
			forms = append(forms, assume(s, fn(c("T"), c("T"))))
		}
		args, wide := c("T"), data("W", numbered("p", n), form("B"))
		for range n {
			args = fn(c("Int"), args)
		}
		ints := slices.Repeat([]api.Sig{sig("Int")}, n)
		within := data("V", nil, form("A", sig("W", ints...)))
		many := []api.Assume{assume("B", row(upTo(n)...), upTo(n)...), assume("A", fn(c("W", slices.Repeat([]api.Type{c("Int")}, n)...), c("V")))}
		many[0].Is.Ty.Name = "W"
		checkOf(t, []api.Data{wide}, many[0])
		if n > 40 {
			checkNotOf(t, api.ErrTree, l...)
			checkNotOf(t, api.ErrTree, d)
			checkNotOf(t, api.ErrTree, data("T", nil, form("A", ints...)))
			checkNotOf(t, api.ErrTree, wide, within)
			continue
		}
		checkOf(t, l, want...)
		checkOf(t, []api.Data{d}, forms...)
		checkOf(t, []api.Data{data("T", nil, form("A", ints...))}, assume("A", args))
		checkOf(t, []api.Data{wide, within}, many...)
	}
	full := []api.Data{}
	for i, s := range numbered("T", 40) {
		d := data(s, params("a"))
		for _, name := range numbered("C"+strconv.Itoa(i)+"x", 40) {
			d.Forms = append(d.Forms, form(name, sig("a")))
		}
		full = append(full, d)
	}
	if l, err := Of(full); err != api.OK || len(l) != 1600 || l[1599].Name != "C39x39" || !alikeSchemes(l[1599].Is, all(fn(h(0), c("T39", h(0))), 0)) {
		t.Errorf("%s, %d", shortAssumes(l), err)
	}
}

// at is a Form's Args, of which the one at the place n (from 1 on) is of this depth, and the last.
func at(n, depth int) []api.Sig {
	return append(slices.Repeat([]api.Sig{sig("Int")}, n-1), sigs(depth, sig("Int")))
}

// P9.3: a Form's type of the greatest depth there may be, and of one more.
func TestDeepForms(t *testing.T) {
	for n := 1; n <= 40; n++ {
		for depth := 1; depth <= 30; depth++ {
			d := data("T", params("a"), form("A", at(n, depth)...))
			if n+depth > 60 {
				checkNotOf(t, api.ErrTy, d)
				continue
			}
			is := fn(nested("IO", depth-1, c("Int")), c("T", h(0)))
			for range n - 1 {
				is = fn(c("Int"), is)
			}
			checkOf(t, []api.Data{d}, assume("A", is, 0))
		}
	}
	deep, shallow := data("T", nil, form("A"), form("B", at(40, 21)...)), data("U", nil, form("C", at(40, 20)...))
	checkNotOf(t, api.ErrTy, deep, shallow)
	checkNotOf(t, api.ErrTy, shallow, deep)
	checkNotOf(t, api.ErrTy, data("T", nil, form("A", slices.Concat(at(31, 30), at(1, 30))...)))
}

// great is a written type of so many parts, above 80: of a Data of 40, whose Args are of it too, and some of a part more.
func great(parts int) api.Sig {
	x := sig("Int")
	l := slices.Repeat([]api.Sig{x}, 40)
	for i := range (parts - 41) / 40 {
		l[i] = sig("W", slices.Repeat([]api.Sig{x}, 40)...)
	}
	for i := range (parts - 41) % 40 {
		l[0].Args[i] = sig("IO", x)
	}
	return sig("W", l...)
}

func partsOf(s api.Sig) int {
	all := 1
	for _, arg := range s.Args {
		all += partsOf(arg)
	}
	return all
}

// P9.3: a Form's type of as many parts as there may be, and of more.
func TestGreatForms(t *testing.T) {
	w, seen := data("W", numbered("p", 40), form("V")), map[int]int{}
	for parts := 81; parts <= 1680; parts += 31 {
		for behind := 0; behind < 39; behind += 3 {
			s, size := great(parts), 2*behind+2+parts
			l := append(slices.Repeat([]api.Sig{sig("Int")}, behind), s)
			got, err := Of([]api.Data{data("T", nil, form("A", l...)), w})
			if partsOf(s) != parts || err != api.OK || len(got) != 2 {
				t.Fatalf("%d parts, %d: %d", parts, partsOf(s), err)
			}
			// Of a second great Arg it comes to just so many as there may be, or to more.
			for _, more := range []int{1997, 1998, 1999, 2000, 2001, 2100, 2800} {
				if more-size < 82 || more-size > 1681 {
					continue
				}
				got, err := Of([]api.Data{data("T", nil, form("A", append(l, great(more-size-1))...)), w})
				if more <= 2000 && (err != api.OK || len(got) != 2) || more > 2000 && (err != api.ErrTy || len(got) != 0) {
					t.Fatalf("%d parts: %d", more, err)
				}
				seen[more]++
			}
		}
	}
	if seen[2000] < 50 || seen[2001] < 50 {
		t.Errorf("%v", seen)
	}
}

// P9.3: more Params than a type may have parts; and at the edge of that.
func TestManyParams(t *testing.T) {
	for _, n := range []int{1000, 1997, 1998, 1999, 2000, 2001, 5000} {
		d := data("T", numbered("p", n), form("A"))
		with := data("T", numbered("p", n), form("A", sig("p"+strconv.Itoa(n-1))))
		end := row(upTo(n)...)
		end.Name = "T"
		if n <= 1999 {
			checkOf(t, []api.Data{d}, assume("A", end, upTo(n)...))
		} else {
			checkNotOf(t, api.ErrTy, d)
		}
		if n <= 1997 {
			checkOf(t, []api.Data{with}, assume("A", fn(h(n-1), end), upTo(n)...))
		} else {
			checkNotOf(t, api.ErrTy, with)
		}
	}
	var l []api.Data
	for i, s := range numbered("T", 40) {
		d := data(s, numbered("p", 5000))
		for _, name := range numbered("C"+strconv.Itoa(i)+"x", 40) {
			d.Forms = append(d.Forms, form(name, sig("p7")))
		}
		l = append(l, d)
	}
	checkNotOf(t, api.ErrTy, l...)
	l[39].Forms[39].Args[0].Name = "p5000"
	checkNotOf(t, api.ErrName, l...)
}

// P9.3: written types made by hand, of one list held again side by side, of more parts than anybody can go through: ErrName of what is wrong anywhere in them, and else ErrTy.
func TestHeldAgain(t *testing.T) {
	for _, depth := range []int{4, 15, 30} {
		for leaf, want := range map[string]api.Errno{"a": api.ErrTy, "Int": api.ErrTy, "b": api.ErrName, "V": api.ErrName, "IO": api.ErrName} {
			s := sig(leaf)
			for range depth - 1 {
				s = sig("W", slices.Repeat([]api.Sig{s}, 40)...)
			}
			w := data("W", numbered("p", 40), form("B"))
			checkNotOf(t, want, w, data("T", params("a"), form("A", s)))
			checkNotOf(t, want, data("T", params("a"), form("A", slices.Repeat([]api.Sig{s}, 40)...)), w)
		}
	}
	two := sig("a")
	for range 29 {
		two = fun(two, two)
	}
	checkNotOf(t, api.ErrTy, data("T", params("a"), form("A", two, sig("Int"), two)))
	checkNotOf(t, api.ErrName, data("T", params("b"), form("A", two)))
	// Ones of a list that is one in part, or that have other Names, are two.
	ints := []api.Sig{sig("Int"), sig("Int")}
	p, q := data("P", params("a", "b"), form("P")), data("Q", params("a"), form("Q"))
	checkNotOf(t, api.ErrName, p, q, data("T", nil, form("A", api.Sig{Name: "P", Args: ints}, api.Sig{Name: "P", Args: ints[:1]})))
	checkNotOf(t, api.ErrName, p, q, data("T", nil, form("A", api.Sig{Name: "P", Args: ints}, api.Sig{Name: "Q", Args: ints})))
	checkNotOf(t, api.ErrName, p, q, data("T", nil, form("A", sig("Int"), sig("V"))))
}

// P9.3: ErrName anywhere is told ahead of ErrTy.
func TestNameAheadOfTy(t *testing.T) {
	deep := data("T", nil, form("A", at(40, 30)...))
	for _, d := range []api.Data{data("Int", nil, form("B")), data("T", nil, form("B")), data("U", nil, form("A")), data("U", nil, form("True")), data("U", nil, form("B", sig("V"))), data("U", nil, form("B", sig("a"))), data("U", nil, form("B", sig("IO")))} {
		checkNotOf(t, api.ErrName, deep, d)
		checkNotOf(t, api.ErrName, d, deep)
	}
	checkNotOf(t, api.ErrName, data("T", nil, form("A", append(at(39, 30), sig("V"))...)))
	checkNotOf(t, api.ErrName, data("T", nil, form("A", at(40, 30)...), form("A")))
	checkNotOf(t, api.ErrTy, deep)
}

// P9.3: what is told are types that ty tells a text of, as the chapter's example is.
func TestExample(t *testing.T) {
	l, err := Of([]api.Data{data("L", params("a"), form("C", sig("a"), sig("L", sig("a"))))})
	if err != api.OK || len(l) != 1 || l[0].Name != "C" || !slices.Equal(l[0].Is.All, []int{0}) || ty.Text(l[0].Is.Ty) != "a -> ((L a) -> (L a))" {
		t.Errorf("%s, %d", shortAssumes(l), err)
	}
}
