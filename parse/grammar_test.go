package parse

import (
	"slices"
	"strings"
	"testing"

	"dawdler/api"
	"dawdler/lex"
)

// grammar is the chapter's rules, each of their ways a line; what may be there often is a rule of its own.
const grammar = `
prog: { }
prog: { decls }
decls: decl
decls: decls ; decl
decl: data Con names = forms
decl: name names = expr
names:
names: names name
forms: form
forms: forms | form
form: Con sigatoms
sigatoms:
sigatoms: sigatoms sigatom
sigatom: Con
sigatom: name
sigatom: ( sig )
sig: sigapp
sig: sigapp -> sig
sigapp: Con sigatoms
sigapp: name
sigapp: ( sig )
expr: \ name -> expr
expr: let name = expr in expr
expr: case expr of { alts }
expr: if expr then expr else expr
expr: do { lines }
expr: dos { lines }
expr: comp
alts: alt
alts: alts ; alt
alt: Con names -> expr
lines: line
lines: lines ; line
line: name <- expr
line: expr
comp: sum
comp: sum == sum
comp: sum < sum
sum: product
sum: sum + product
sum: sum - product
product: app
product: product * app
product: product / app
app: atom
app: app atom
atom: number
atom: name
atom: Con
atom: ( expr )
`

// way is one of a rule's.
type way struct {
	rule  string
	parts []string
}

// item is how far a way was gone, and from which token on.
type item struct{ way, done, from int }

// reader goes through tokens by all ways at once, so that it is never wrong about what can be gone on with.
type reader struct {
	ways  []way
	heads map[string]bool
	empty map[string]bool
	// sets are the items ahead of each token, and behind the last one.
	sets [][]item
}

func newReader(start string) *reader {
	r := &reader{ways: []way{{"whole", []string{start}}}, heads: map[string]bool{}, empty: map[string]bool{}}
	for line := range strings.Lines(strings.TrimSpace(grammar)) {
		head, body, _ := strings.Cut(strings.TrimSpace(line), ":")
		parts := strings.Fields(body)
		r.ways = append(r.ways, way{head, parts})
		r.heads[head] = true
		if len(parts) == 0 {
			r.empty[head] = true
		}
	}
	r.sets = [][]item{r.close([]item{{}}, 0)}
	return r
}

// waits is what a way asks for next, nothing at its end.
func (r *reader) waits(i item) string {
	if parts := r.ways[i.way].parts; i.done < len(parts) {
		return parts[i.done]
	}
	return ""
}

// close has all items be there that follow from others, ahead of the token at a place.
func (r *reader) close(set []item, at int) []item {
	seen := map[item]bool{}
	for _, i := range set {
		seen[i] = true
	}
	add := func(i item) {
		if !seen[i] {
			seen[i] = true
			set = append(set, i)
		}
	}
	for n := 0; n < len(set); n++ {
		i := set[n]
		switch next := r.waits(i); {
		case next == "":
			// Rules that may be empty are gone over below, so that those that began here need not be looked at again.
			if i.from < at {
				for _, old := range r.sets[i.from] {
					if r.waits(old) == r.ways[i.way].rule {
						add(item{old.way, old.done + 1, old.from})
					}
				}
			}
		case r.heads[next]:
			for w, way := range r.ways {
				if way.rule == next {
					add(item{w, 0, at})
				}
			}
			if r.empty[next] {
				add(item{i.way, i.done + 1, i.from})
			}
		}
	}
	return set
}

// class is what a token is to the grammar.
func class(t api.Token) string {
	switch t.Kind {
	case api.TInt:
		return "number"
	case api.TName:
		return "name"
	case api.TCon:
		return "Con"
	case api.TKey:
		return t.Text
	}
	return "?"
}

// read goes on by a token, if that can be.
func (r *reader) read(t api.Token) bool {
	var set []item
	for _, i := range r.sets[len(r.sets)-1] {
		if r.waits(i) == class(t) {
			set = append(set, item{i.way, i.done + 1, i.from})
		}
	}
	if len(set) == 0 {
		return false
	}
	r.sets = append(r.sets, nil)
	r.sets[len(r.sets)-1] = r.close(set, len(r.sets)-1)
	return true
}

func (r *reader) back() { r.sets = r.sets[:len(r.sets)-1] }

// whole tells whether what was read is all that there is to be.
func (r *reader) whole() bool {
	return slices.Contains(r.sets[len(r.sets)-1], item{0, 1, 0})
}

// said is a call's place and error.
type said struct {
	at  api.Place
	err api.Errno
}

func askExpr(l []api.Token) said {
	_, at, err := Expr(l)
	return said{at, err}
}

func askProg(l []api.Token) said {
	_, at, err := Prog(l)
	return said{at, err}
}

// asks are the calls, by the rules that they are of.
func asks() map[string]func([]api.Token) said {
	return map[string]func([]api.Token) said{"expr": askExpr, "prog": askProg}
}

// stop is where tokens can't be gone on with, and whether they are whole.
func stop(start string, l []api.Token) (api.Place, bool) {
	r, at := newReader(start), api.Place{}
	for _, t := range l {
		at = api.Place{Line: t.Line, Col: t.Col}
		if !r.read(t) {
			return at, false
		}
	}
	return at, r.whole()
}

// checkStopped holds a call against the grammar, which tells whether tokens are whole.
func checkStopped(t *testing.T, start string, l []api.Token) bool {
	t.Helper()
	got := asks()[start](l)
	at, whole := stop(start, l)
	if whole && got.err == api.ErrParse || !whole && got != (said{at, api.ErrParse}) {
		t.Errorf("%s %q: %v; want %v, %v", start, lex.Text(l), got, at, whole)
	}
	return whole
}

// tokens are one of each that the grammar knows, and some that it does not.
func tokens() []api.Token {
	var l []api.Token
	for _, s := range strings.Fields(`{ } ; = | -> <- == < + - * / \ ( ) case of let in do dos if then else data ?`) {
		l = append(l, api.Token{Kind: api.TKey, Text: s})
	}
	l = append(l, api.Token{Kind: api.TInt, Text: "1", Num: 1}, api.Token{Kind: api.TName, Text: "x"}, api.Token{Kind: api.TCon, Text: "X"}, api.Token{Text: "x"}, api.Token{Kind: 5, Text: "("})
	for i := range l {
		l[i].Line = i + 1
	}
	return l
}

// everyWay goes on from what was read by every token that can be gone on with, so far; each other one has to be told.
func everyWay(t *testing.T, r *reader, start string, l []api.Token, more int) int {
	t.Helper()
	count := 0
	got := asks()[start](l)
	if last := l[len(l)-1]; r.whole() == (got.err == api.ErrParse) || got.err == api.ErrParse && got.at != (api.Place{Line: last.Line, Col: last.Col}) {
		t.Errorf("%s %q: %v", start, lex.Text(l), got)
	}
	for _, next := range tokens() {
		next.Col = len(l) + 1
		longer := append(slices.Clip(l), next)
		if r.read(next) {
			if more > 0 {
				count += everyWay(t, r, start, longer, more-1)
			}
			r.back()
			continue
		}
		count++
		for _, behind := range [][]api.Token{nil, l} {
			got := asks()[start](append(slices.Clip(longer), behind...))
			if want := (said{api.Place{Line: next.Line, Col: next.Col}, api.ErrParse}); got != want {
				t.Errorf("%s %q: %v; want %v", start, lex.Text(longer), got, want)
			}
		}
	}
	return count
}

// P6.1: from some beginnings on, all that can be gone on with, and at each place all that can't.
func TestEveryWay(t *testing.T) {
	for _, c := range []struct {
		start, src string
		more       int
	}{
		{"expr", "x", 3}, {"expr", "(", 2}, {"expr", "x ==", 2}, {"expr", "x == y", 3}, {"expr", "a * b + c", 2}, {"expr", `\`, 3}, {"expr", "let", 3}, {"expr", "let x = 1", 2}, {"expr", "let x = 1 in", 2}, {"expr", "case", 2}, {"expr", "case x of", 3}, {"expr", "case x of { A", 3}, {"expr", "case x of { A -> 1", 2},
		{"expr", "if", 2}, {"expr", "if x", 2}, {"expr", "if x then y", 2}, {"expr", "if x then y else", 2}, {"expr", "do", 3}, {"expr", "do { x", 2}, {"expr", "do { x <-", 2}, {"expr", "do { x <- y", 2}, {"expr", "dos", 3}, {"expr", "do { x }", 2}, {"expr", "(do { x }", 2}, {"expr", "(a == b)", 2},
		{"prog", "{", 3}, {"prog", "{ f", 3}, {"prog", "{ f = 1", 2}, {"prog", "{ data", 3}, {"prog", "{ data T a", 3}, {"prog", "{ data T = A", 3}, {"prog", "{ data T = A (", 4}, {"prog", "{ data T = A (T", 3}, {"prog", "{ data T = A (a ->", 4}, {"prog", "{ data T = A ((a)", 3}, {"prog", "{ }", 1},
	} {
		l, r := words(t, c.src), newReader(c.start)
		for _, w := range l {
			if !r.read(w) {
				t.Fatalf("%q: no beginning", c.src)
			}
		}
		if everyWay(t, r, c.start, l, c.more) < 20 {
			t.Errorf("%q: too few", c.src)
		}
	}
	for start, ask := range asks() {
		for _, next := range tokens() {
			next.Col = 7
			if !newReader(start).read(next) {
				if got := ask([]api.Token{next}); got != (said{api.Place{Line: next.Line, Col: 7}, api.ErrParse}) {
					t.Errorf("%s %q: %v", start, next.Text, got)
				}
			}
		}
	}
}

// P6.1: each rule's texts are what the grammar says, so that both tell of one language.
func TestGrammar(t *testing.T) {
	for src := range rules() {
		if _, whole := stop("expr", words(t, src)); !whole {
			t.Errorf("%q: no expr", src)
		}
	}
	for src := range progs() {
		if _, whole := stop("prog", words(t, src)); !whole {
			t.Errorf("%q: no prog", src)
		}
	}
}
