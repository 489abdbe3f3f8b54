package parse

import (
	"reflect"
	"slices"
	"strings"
	"testing"

	"dawdler/api"
	"dawdler/lex"
	"dawdler/print"
	"dawdler/tree"
)

// source makes numbers below what is asked for, the same ones in each run.
func source(seed uint64) func(int) int {
	return func(n int) int {
		seed = seed*6364136223846793005 + 1442695040888963407
		return int(seed>>33) % n
	}
}

// maker says rules in words, and beside them what they say, by chance.
type maker struct {
	next func(int) int
	// left is how many rules may still say more than they have to.
	left int
}

func (m *maker) more(n int) bool {
	m.left--
	return m.left > 0 && m.next(n) == 0
}

func (m *maker) name() string { return string(rune('a' + m.next(5))) }
func (m *maker) con() string  { return string(rune('A' + m.next(5))) }

func (m *maker) names(n int) []string {
	var l []string
	for m.more(n) {
		l = append(l, m.name())
	}
	return l
}

func (m *maker) expr() (string, api.Expr) {
	if !m.more(2) {
		return m.comp()
	}
	switch name := m.name(); m.next(6) {
	case 0:
		s, e := m.expr()
		return "\\" + name + " -> " + s, lam(name, e)
	case 1:
		s, e := m.expr()
		s1, e1 := m.expr()
		return "let " + name + " = " + s + " in " + s1, let(name, e, e1)
	case 2:
		s, e := m.expr()
		text, l := m.rows(m.alt)
		return "case " + s + " of " + text, of(api.ECase, append([]api.Expr{e}, l...)...)
	case 3:
		s, e := m.expr()
		s1, e1 := m.expr()
		s2, e2 := m.expr()
		return "if " + s + " then " + s1 + " else " + s2, of(api.EIf, e, e1, e2)
	case 4:
		text, l := m.rows(m.line)
		return "do " + text, of(api.EDo, l...)
	}
	text, l := m.rows(m.line)
	return "dos " + text, of(api.EDos, l...)
}

// rows are what a rule says between { and }, with ; between.
func (m *maker) rows(rule func() (string, api.Expr)) (string, []api.Expr) {
	s, e := rule()
	l := []api.Expr{e}
	for m.more(2) {
		s1, e1 := rule()
		s, l = s+" ; "+s1, append(l, e1)
	}
	return "{ " + s + " }", l
}

func (m *maker) alt() (string, api.Expr) {
	c, names := m.con(), m.names(2)
	s, e := m.expr()
	return strings.Join(append([]string{c}, names...), " ") + " -> " + s, alt(c, e, names...)
}

func (m *maker) line() (string, api.Expr) {
	if m.next(3) > 0 {
		return m.expr()
	}
	name := m.name()
	s, e := m.expr()
	return name + " <- " + s, bind(name, e)
}

func (m *maker) comp() (string, api.Expr) {
	s, e := m.sum()
	if m.more(4) {
		sign := []string{"==", "<"}[m.next(2)]
		s1, e1 := m.sum()
		return s + " " + sign + " " + s1, op(sign, e, e1)
	}
	return s, e
}

func (m *maker) sum() (string, api.Expr)     { return m.chain(m.product, "+", "-") }
func (m *maker) product() (string, api.Expr) { return m.chain(m.app, "*", "/") }

func (m *maker) chain(rule func() (string, api.Expr), signs ...string) (string, api.Expr) {
	s, e := rule()
	for m.more(3) {
		sign := signs[m.next(2)]
		s1, e1 := rule()
		s, e = s+" "+sign+" "+s1, op(sign, e, e1)
	}
	return s, e
}

func (m *maker) app() (string, api.Expr) {
	s, e := m.atom()
	for m.more(3) {
		s1, e1 := m.atom()
		s, e = s+" "+s1, app(e, e1)
	}
	return s, e
}

func (m *maker) atom() (string, api.Expr) {
	if m.more(3) {
		s, e := m.expr()
		return "( " + s + " )", e
	}
	switch m.next(3) {
	case 0:
		n := m.next(3)
		return string(rune('0' + n)), number(n)
	case 1:
		c := m.con()
		return c, con(c)
	}
	name := m.name()
	return name, v(name)
}

func (m *maker) sig() (string, api.Sig) {
	s, is := m.sigApp()
	if m.more(3) {
		s1, is1 := m.sig()
		return s + " -> " + s1, fun(is, is1)
	}
	return s, is
}

func (m *maker) sigApp() (string, api.Sig) {
	if m.next(2) == 0 {
		return m.sigAtom()
	}
	c := m.con()
	s, l := m.sigAtoms()
	return c + s, sig(c, l...)
}

func (m *maker) sigAtom() (string, api.Sig) {
	if m.more(2) {
		s, is := m.sig()
		return "( " + s + " )", is
	}
	s := []string{m.con(), m.name()}[m.next(2)]
	return s, sig(s)
}

func (m *maker) sigAtoms() (string, []api.Sig) {
	text, l := "", []api.Sig(nil)
	for m.more(2) {
		s, is := m.sigAtom()
		text, l = text+" "+s, append(l, is)
	}
	return text, l
}

func (m *maker) prog() (string, api.Prog) {
	var p api.Prog
	var lines []string
	for range m.next(5) {
		if m.next(2) == 0 {
			s, d := m.data()
			lines, p.Datas = append(lines, s), append(p.Datas, d)
			continue
		}
		s, d := m.def()
		lines, p.Defs = append(lines, s), append(p.Defs, d)
	}
	return "{ " + strings.Join(lines, " ; ") + " }", p
}

func (m *maker) data() (string, api.Data) {
	d := api.Data{Name: m.con(), Params: m.names(2)}
	var forms []string
	for len(forms) == 0 || m.more(2) {
		c := m.con()
		s, l := m.sigAtoms()
		forms, d.Forms = append(forms, c+s), append(d.Forms, form(c, l...))
	}
	return strings.Join(append([]string{"data", d.Name}, d.Params...), " ") + " = " + strings.Join(forms, " | "), d
}

func (m *maker) def() (string, api.Def) {
	name, names := m.name(), m.names(2)
	s, e := m.expr()
	for i := range names {
		e = lam(names[len(names)-1-i], e)
	}
	return strings.Join(append([]string{name}, names...), " ") + " = " + s, def(name, e)
}

// loose is a text with other gaps, and gaps ahead.
func (m *maker) loose(s string) string {
	for _, gap := range []string{"\n", " -- ( x\n "} {
		for range m.next(4) {
			at := m.next(len(s) + 1)
			if at = strings.IndexByte(s[at:], ' ') + at; at >= 0 && s[at] == ' ' && !strings.Contains(s[:at], "--") {
				s = s[:at] + gap + s[at:]
			}
		}
	}
	return strings.Repeat(" ", m.next(3)) + s
}

// P6.1: many trees, said by the chapter's rules, and what each rule says.
func TestManyTrees(t *testing.T) {
	m, fine, wrong := &maker{next: source(61)}, 0, 0
	for range 20000 {
		m.left = 2 + m.next(60)
		src, e := m.expr()
		src = m.loose(src)
		if tree.Check(e) {
			fine++
			checkExpr(t, src, e)
		} else {
			wrong++
			checkNest(t, src)
		}
	}
	if fine < 5000 || wrong < 1000 {
		t.Errorf("%d and %d", fine, wrong)
	}
}

// P6.1, P6.2: many programs, said by the chapter's rules.
func TestManyProgs(t *testing.T) {
	m, fine, wrong := &maker{next: source(63)}, 0, 0
	for range 15000 {
		m.left = 2 + m.next(80)
		src, p := m.prog()
		if tree.Prog(p) {
			fine++
			checkProg(t, m.loose(src), p)
			checkText(t, src, p)
		} else {
			wrong++
			checkProgNest(t, m.loose(src))
		}
	}
	if fine < 5000 || wrong < 1000 {
		t.Errorf("%d and %d", fine, wrong)
	}
}

// spoil changes a place of a list or two: a token is another one, there is one more, or one less, or two change places.
func spoil(next func(int) int, l []api.Token) []api.Token {
	all := tokens()
	l = slices.Clone(l)
	for range 1 + next(2) {
		at := next(len(l))
		switch next(4) {
		case 0:
			l[at] = all[next(len(all))]
		case 1:
			l = slices.Insert(l, at, all[next(len(all))])
		case 2:
			if len(l) > 1 {
				l = slices.Delete(l, at, at+1)
			}
		case 3:
			other := next(len(l))
			l[at], l[other] = l[other], l[at]
		}
	}
	for i := range l {
		l[i].Line, l[i].Col = next(9), i
	}
	return l
}

// P6.1: many lists that are nearly right, held against the grammar.
func TestManyWrong(t *testing.T) {
	m, whole, not := &maker{next: source(64)}, 0, 0
	for i := range 16000 {
		m.left = 2 + m.next(30)
		start, src := "expr", ""
		if i%2 == 0 {
			src, _ = m.expr()
		} else {
			start = "prog"
			src, _ = m.prog()
		}
		if checkStopped(t, start, spoil(m.next, words(t, src))) {
			whole++
		} else {
			not++
		}
	}
	if whole < 1000 || not < 5000 {
		t.Errorf("%d and %d", whole, not)
	}
}

// P6.3: what print tells of a tree is parsed as that tree.
func TestPrintedTrees(t *testing.T) {
	m, many := &maker{next: source(65)}, 0
	for range 15000 {
		m.left = 2 + m.next(60)
		_, e := m.expr()
		if s, err := print.Expr(e); err == api.OK {
			many++
			checkExpr(t, s, e)
			checkText(t, "f = "+s, defs(def("f", e)))
		}
	}
	for src, e := range rules() {
		s, err := print.Expr(e)
		if err != api.OK {
			t.Errorf("%q: %d", src, err)
		}
		checkExpr(t, s, e)
	}
	if many < 5000 {
		t.Errorf("%d", many)
	}
}

// P6.3: what print tells of a program is parsed as that program, of its tokens, and of its text.
func TestPrintedProgs(t *testing.T) {
	m, many := &maker{next: source(66)}, 0
	check := func(p api.Prog) {
		if s, err := print.Prog(p); err == api.OK {
			many++
			checkProg(t, s, p)
			checkText(t, s, p)
		}
	}
	for range 15000 {
		m.left = 2 + m.next(80)
		_, p := m.prog()
		check(p)
	}
	for _, p := range progs() {
		check(p)
	}
	if many < 5000 {
		t.Errorf("%d", many)
	}
}

// memory are the first and the last address of each list in a thing, its spare room too.
func memory(x reflect.Value, found *[][2]uintptr) {
	switch x.Kind() {
	case reflect.Slice:
		if x.Cap() > 0 {
			*found = append(*found, [2]uintptr{x.Pointer(), x.Pointer() + uintptr(x.Cap())*x.Type().Elem().Size()})
		}
		for i := range x.Len() {
			memory(x.Index(i), found)
		}
	case reflect.Struct:
		for i := range x.NumField() {
			memory(x.Field(i), found)
		}
	}
}

// R4: no two lists of an answer, or of two answers, share memory; R5: a call answers the same again; what is handed in, its spare room too, stays as it is.
func TestMemory(t *testing.T) {
	m := &maker{next: source(67)}
	for range 500 {
		m.left = 20 + m.next(200)
		src, _ := m.prog()
		expr, _ := m.expr()
		l, le, text := append(words(t, src), tokens()...), append(words(t, expr), tokens()...), []byte(src+"?x")
		l, le = l[:len(l)-len(tokens())], le[:len(le)-len(tokens())]
		was, wasExpr := slices.Clone(l[:cap(l)]), slices.Clone(le[:cap(le)])
		p, _, err := Prog(l)
		again, _, _ := Prog(slices.Clip(l))
		byText, _, errText := Text(text[:len(src)])
		e, _, _ := Expr(le)
		eAgain, _, _ := Expr(le)
		if told(p) != told(again) || told(p) != told(byText) || err != errText || told(e) != told(eAgain) {
			t.Fatalf("%q: not the same again", src)
		}
		if !slices.Equal(was, l[:cap(l)]) || !slices.Equal(wasExpr, le[:cap(le)]) || string(text) != src+"?x" {
			t.Fatalf("%q: changed", src)
		}
		var found [][2]uintptr
		for _, x := range []any{p, again, byText, e, eAgain, l[:cap(l)], le[:cap(le)]} {
			memory(reflect.ValueOf(x), &found)
		}
		slices.SortFunc(found, func(a, b [2]uintptr) int { return int(a[0]) - int(b[0]) })
		for i := range found[1:] {
			if found[i][1] > found[i+1][0] {
				t.Fatalf("%q: memory is shared", src)
			}
		}
	}
}

// repeat are tokens, often.
func repeat(l []api.Token, times int) []api.Token { return slices.Repeat(l, times) }

// R1: nesting as deep as it may be, of each kind, right, ended too early, and with a wrong token in the end.
func TestVeryDeep(t *testing.T) {
	const levels = 1 << 16
	for _, d := range append(deeps(), deep{"(", "1", ")", 0, 1}) {
		ahead, within, behind := words(t, d.ahead), words(t, d.within), words(t, d.behind)
		l := slices.Concat(repeat(ahead, levels), within, repeat(behind, levels))
		l[0].Line, l[0].Col = 3, 3
		if d.each == 0 {
			checkTree(t, l, number(1))
		} else {
			checkNoTree(t, l, 3, 3, api.ErrNest)
		}
		l = append(l, api.Token{Kind: api.TKey, Text: ")", Line: 9, Col: 1})
		checkNoTree(t, l, 9, 1, api.ErrParse)
		if len(ahead) > 0 {
			l = repeat(ahead, levels)
			l[len(l)-1].Line = 8
			checkNoTree(t, l, 8, l[len(l)-1].Col, api.ErrParse)
		}
	}
	for _, d := range [][3]string{{"(", "a", ")"}, {"(T ", "a", ")"}, {"a -> ", "a", ""}, {"(", "a", ") -> a"}, {"(", "a", " -> a)"}} {
		l := slices.Concat(words(t, "{ data T = A ("), repeat(words(t, d[0]), levels), words(t, d[1]), repeat(words(t, d[2]), levels), words(t, ") }"))
		l[0].Line, l[0].Col = 3, 3
		if d[0]+d[2] == "()" {
			checkTokens(t, l, datas(data("T", nil, form("A", sig("a")))))
		} else {
			checkNoProg(t, l, 3, 3, api.ErrNest)
		}
		l[len(l)-1].Text, l[len(l)-1].Line = ")", 7
		checkNoProg(t, l, 7, l[len(l)-1].Col, api.ErrParse)
	}
}

// R1: rows that are very long.
func TestVeryLong(t *testing.T) {
	const many = 1 << 17
	for _, c := range [][4]string{
		{"expr", "f", "x", ""}, {"expr", "1", "+ 1", ""}, {"expr", "1", "* 1", ""}, {"expr", "do {", "1 ;", "1 }"}, {"expr", "dos {", "x <- 1 ;", "1 }"}, {"expr", "case 1 of {", "A -> 1 ;", "B -> 1 }"}, {"expr", "case 1 of { A", "x", "-> 1 }"}, {"expr", "do {", "do { 1 } ;", "1 }"},
		{"prog", "{", "f = 1 ;", "g = 1 }"}, {"prog", "{", "data T = A ;", "g = 1 }"}, {"prog", "{ data T = A", "| B", "}"}, {"prog", "{ data T = A", "a", "}"}, {"prog", "{ data T = A (T", "a", ") }"}, {"prog", "{ f", "x", "= 1 }"}, {"prog", "{ data T a", "b a", "= A }"},
	} {
		l := slices.Concat(words(t, c[1]), repeat(words(t, c[2]), many), words(t, c[3]))
		l[0].Line, l[len(l)-1].Line = 5, 6
		if got := asks()[c[0]](l); got != (said{place(5, 1), api.ErrNest}) {
			t.Errorf("%v: %v", c, got)
		}
		l = append(l, api.Token{Kind: api.TKey, Text: "in", Line: 7, Col: 8})
		if got := asks()[c[0]](l); got != (said{place(7, 8), api.ErrParse}) {
			t.Errorf("%v: %v", c, got)
		}
	}
}

// P6.1: whatever tokens there are, each call ends, and tells of what tree says that it may be.
func TestAnyTokens(t *testing.T) {
	next, all := source(68), append(tokens(), strange()...)
	all = append(all, api.Token{Kind: api.TName, Text: "X"}, api.Token{Kind: api.TCon, Text: "x"}, api.Token{Kind: api.TInt, Num: -1}, api.Token{Kind: api.TName}, api.Token{Kind: api.TCon})
	for range 100000 {
		var l []api.Token
		for range next(12) {
			l = append(l, all[next(len(all))])
		}
		e, at, err := Expr(l)
		if err == api.OK && (!tree.Check(e) || at != (api.Place{})) || err != api.OK && !reflect.DeepEqual(e, api.Expr{}) {
			t.Errorf("%q: %v, %v, %d", lex.Text(l), e, at, err)
		}
		p, at, err := Prog(l)
		if err == api.OK && (!tree.Prog(p) || at != (api.Place{})) || err != api.OK && !reflect.DeepEqual(p, api.Prog{}) {
			t.Errorf("%q: %v, %v, %d", lex.Text(l), p, at, err)
		}
	}
}
