package print

import (
	"fmt"
	"math"
	"reflect"
	"slices"
	"strings"
	"testing"

	"dawdler/api"
	"dawdler/tree"
)

// frames are the chapter's words: $ is the Kids in order, @ those as atoms, # the Name, % the Names, each with the gap ahead of it.
func frames() []string {
	return []string{1: "", 2: "#", 3: "#", 4: `\% -> $`, 5: "@ @", 6: "let% = $ in $", 8: "#% -> $", 9: "@ # @", 10: "if $ then $ else $", 13: "% <- $"}
}

// trueText goes by the frames, and by joins of what stands in { and }.
func trueText(e api.Expr) string {
	var kids []string
	for _, k := range e.Kids {
		kids = append(kids, trueText(k))
	}
	switch e.Kind {
	case 1:
		return fmt.Sprintf("%d", e.Num)
	case 7:
		return fmt.Sprintf("case %s of { %s }", kids[0], strings.Join(kids[1:], " ; "))
	case 11, 12:
		return fmt.Sprintf("%s { %s }", map[int]string{11: "do", 12: "dos"}[e.Kind], strings.Join(kids, " ; "))
	}
	told, at := "", 0
	for _, c := range frames()[e.Kind] {
		switch c {
		case '$':
			told += kids[at]
			at++
		case '@':
			if e.Kids[at].Kind > 3 {
				kids[at] = "(" + kids[at] + ")"
			}
			told += kids[at]
			at++
		case '#':
			told += e.Name
		case '%':
			for _, s := range e.Names {
				told += " " + s
			}
		default:
			told += string(c)
		}
	}
	return strings.TrimPrefix(strings.Replace(told, `\ `, `\`, 1), " ")
}

// trueSig goes by joins.
func trueSig(s api.Sig) string {
	words := []string{s.Name}
	for _, a := range s.Args {
		words = append(words, trueSigAtom(a))
	}
	if s.Name == "->" && len(s.Args) == 2 {
		words[0], words[1] = words[1], words[0]
	}
	return strings.Join(words, " ")
}

func trueSigAtom(s api.Sig) string {
	if len(s.Args) == 0 {
		return s.Name
	}
	return "(" + trueSig(s) + ")"
}

func trueProg(p api.Prog) string {
	var lines []string
	for _, d := range p.Datas {
		var forms []string
		for _, f := range d.Forms {
			words := []string{f.Name}
			for _, a := range f.Args {
				words = append(words, trueSigAtom(a))
			}
			forms = append(forms, strings.Join(words, " "))
		}
		head := append([]string{"data", d.Name}, d.Params...)
		lines = append(lines, strings.Join(head, " ")+" = "+strings.Join(forms, " | "))
	}
	for _, d := range p.Defs {
		lines = append(lines, d.Name+" = "+trueText(d.Body))
	}
	if len(lines) == 0 {
		return "{ }"
	}
	return "{ " + strings.Join(lines, " ; ") + " }"
}

// source makes numbers below what is asked for, the same ones in each run.
func source(seed uint64) func(int) int {
	return func(n int) int {
		seed = seed*6364136223846793005 + 1442695040888963407
		return int(seed>>33) % n
	}
}

// grow makes a tree that is sound.
func grow(next func(int) int, depth int) api.Expr {
	name := func() string { return string(rune('a' + next(4))) }
	kid := func() api.Expr { return grow(next, depth-1) }
	if depth <= 1 || next(6) == 0 {
		return []api.Expr{number(next(30)), v(name()), con("A"), con("B")}[next(4)]
	}
	switch next(9) {
	case 0, 1:
		return lam(name(), kid())
	case 2:
		return app(kid(), kid())
	case 3:
		return let(name(), kid(), kid())
	case 4:
		l := []api.Expr{kid()}
		for range 1 + next(3) {
			l = append(l, alt("A", kid(), []string{"a", "b", "c", "d", "e"}[next(4):][:next(2)]...))
		}
		return of(api.ECase, l...)
	case 5:
		return op([]string{"+", "-", "*", "/", "==", "<"}[next(6)], kid(), kid())
	case 6:
		return of(api.EIf, kid(), kid(), kid())
	}
	var l []api.Expr
	for range next(4) {
		l = append(l, []api.Expr{bind(name(), kid()), kid()}[next(2)])
	}
	return of(api.EDo+next(2), append(l, kid())...)
}

func growSig(next func(int) int, depth int) api.Sig {
	if depth <= 1 || next(3) == 0 {
		return sig([]string{"a", "b", "Int"}[next(3)])
	}
	if next(3) == 0 {
		return fun(growSig(next, depth-1), growSig(next, depth-1))
	}
	s := sig([]string{"T", "L"}[next(2)])
	for range next(4) {
		s.Args = append(s.Args, growSig(next, depth-1))
	}
	return s
}

func growProg(next func(int) int) api.Prog {
	var p api.Prog
	for range next(4) {
		d := data([]string{"T", "U"}[next(2)], []string{"a", "b", "c"}[:next(4)])
		for range 1 + next(3) {
			f := form([]string{"A", "B"}[next(2)])
			for range next(3) {
				f.Args = append(f.Args, growSig(next, 1+next(4)))
			}
			d.Forms = append(d.Forms, f)
		}
		p.Datas = append(p.Datas, d)
	}
	for range next(4) {
		p.Defs = append(p.Defs, def([]string{"f", "g"}[next(2)], grow(next, 1+next(4))))
	}
	return p
}

// spoil changes one place of a tree, as it may be, or may not.
func spoil(next func(int) int, e *api.Expr) {
	for len(e.Kids) > 0 && next(3) > 0 {
		e = &e.Kids[next(len(e.Kids))]
	}
	switch next(6) {
	case 0:
		e.Kind = next(16) - 1
	case 1:
		e.Name = []string{"", "a", "B", "in", "*"}[next(5)]
	case 2:
		e.Num = []int{0, 1, -1, math.MinInt, math.MaxInt}[next(5)]
	case 3:
		e.Names = [][]string{nil, {}, {"a"}, {"B"}, {"a", "b"}, {"a", "a"}}[next(6)]
	case 4:
		e.Kids = append(e.Kids, []api.Expr{v("a"), alt("A", v("a")), bind("a", v("a")), {}}[next(4)])
	case 5:
		if len(e.Kids) > 0 {
			e.Kids = e.Kids[1:]
		}
	}
}

// P5.1: many trees, as they are, and with one place changed, held against the chapter's words.
func TestManyTrees(t *testing.T) {
	next, fine, wrong := source(5), 0, 0
	for i := range 40000 {
		e := grow(next, 1+i%7)
		for range 2 {
			if tree.Check(e) {
				fine++
				checkExpr(t, e, trueText(e))
			} else {
				wrong++
				checkNone(t, e)
			}
			spoil(next, &e)
		}
	}
	if fine < 20000 || wrong < 10000 {
		t.Errorf("%d have a text, %d have none", fine, wrong)
	}
}

// P5.1, P5.2: many programs, and written types.
func TestManyProgs(t *testing.T) {
	next := source(55)
	for range 20000 {
		s, p := growSig(next, 1+next(6)), growProg(next)
		checkSig(t, s, trueSig(s))
		checkProg(t, p, trueProg(p))
	}
}

// all are the trees that can be made of others, of each Kind.
func all(l []api.Expr) []api.Expr {
	made := []api.Expr{number(0), number(1), number(10), v("x"), v("y"), con("A"), con("B")}
	for _, a := range l {
		made = append(made, lam("x", a), lam("y", a), of(api.EDo, a), of(api.EDos, a), of(api.ECase, a, alt("A", a)))
		for _, b := range l {
			made = append(made, app(a, b), let("x", a, b), let("y", a, b), op("+", a, b), op("-", a, b), op("*", a, b), op("/", a, b), op("==", a, b), op("<", a, b), of(api.EIf, a, b, a), of(api.EIf, a, b, b))
			made = append(made, of(api.ECase, a, alt("B", b)), of(api.ECase, a, alt("A", b, "x")), of(api.ECase, a, alt("A", b, "x", "y")), of(api.ECase, a, alt("A", b, "y", "x")), of(api.ECase, a, alt("A", b), alt("B", a)), of(api.ECase, a, alt("A", a), alt("A", b)))
			for _, do := range []int{api.EDo, api.EDos} {
				made = append(made, of(do, a, b), of(do, bind("x", a), b), of(do, bind("y", a), b), of(do, a, b, a), of(do, a, bind("x", b), a))
			}
		}
	}
	return made
}

// P5.3: among all small trees no two that differ have one text.
func TestNoTwoTrees(t *testing.T) {
	one := all(nil)
	two := all(one)
	// Of all that stand on those no more than each 25th can be held as both Kids.
	var some []api.Expr
	for i := 0; i < len(two); i += 25 {
		some = append(some, two[i])
	}
	seen := map[string]api.Expr{}
	for _, e := range slices.Concat(two, all(some)) {
		s, err := Expr(e)
		if err != api.OK || s == "" {
			t.Fatalf("%v: %q, %d", e, s, err)
		}
		if other, twice := seen[s]; twice && !reflect.DeepEqual(other, e) {
			t.Fatalf("%q is of %v and of %v", s, other, e)
		}
		seen[s] = e
	}
	if len(seen) < 20000 {
		t.Errorf("only %d texts", len(seen))
	}
}

// P5.3: many trees and programs, where just those that are one have one text.
func TestNoTwoAlike(t *testing.T) {
	next := source(53)
	trees, progs := map[string]string{}, map[string]string{}
	once := func(seen map[string]string, s string, x any) {
		told := fmt.Sprintf("%+v", x)
		if other, twice := seen[s]; twice && other != told {
			t.Fatalf("%q is of %s and of %s", s, other, told)
		}
		seen[s] = told
	}
	for range 40000 {
		e, p := grow(next, 1+next(4)), growProg(next)
		for range 3 {
			if s, err := Expr(e); err == api.OK {
				once(trees, s, e)
			}
			spoil(next, &e)
		}
		s, _ := Prog(p)
		once(progs, s, p)
	}
	if len(trees) < 10000 || len(progs) < 10000 {
		t.Errorf("only %d and %d texts", len(trees), len(progs))
	}
}

// P5.3: written types and programs that differ in one part have texts that differ.
func TestOnePart(t *testing.T) {
	a, b, x := sig("a"), sig("b"), v("x")
	data := func(s string, params []string, l ...api.Form) api.Prog { return datas(data(s, params, l...)) }
	progs := []api.Prog{{},
		data("T", nil, form("A")), data("U", nil, form("A")), data("T", []string{"a"}, form("A")), data("T", []string{"b"}, form("A")), data("T", []string{"a", "b"}, form("A")), data("T", []string{"b", "a"}, form("A")),
		data("T", nil, form("B")), data("T", nil, form("A"), form("B")), data("T", nil, form("B"), form("A")), data("T", nil, form("A"), form("A")),
		data("T", nil, form("A", a)), data("T", nil, form("A", b)), data("T", nil, form("A", a, b)), data("T", nil, form("A", b, a)), data("T", nil, form("A", sig("B"))), data("T", nil, form("A", sig("B", a))), data("T", nil, form("A", sig("B"), a)), data("T", nil, form("A", fun(a, b))), data("T", nil, form("A", fun(b, a))), data("T", nil, form("A", fun(a, fun(a, b)))), data("T", nil, form("A", fun(fun(a, a), b))),
		defs(def("f", x)), defs(def("g", x)), defs(def("f", v("y"))), defs(def("f", lam("x", x))), defs(def("f", x), def("g", x)), defs(def("g", x), def("f", x)), defs(def("f", x), def("f", x)),
		{Datas: data("T", nil, form("A")).Datas, Defs: defs(def("f", x)).Defs},
	}
	seen := map[string]int{}
	for i, p := range progs {
		s, err := Prog(p)
		if other, twice := seen[s]; twice || err != api.OK {
			t.Errorf("%d and %d: %q, %d", i, other, s, err)
		}
		seen[s] = i
	}
}
