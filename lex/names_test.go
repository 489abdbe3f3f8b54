package lex

import (
	"strings"
	"testing"

	"dawdler/api"
)

// others are texts that are neither a key word, nor a sign, nor a name, nor a constructor.
func others() []string {
	return []string{
		"", " ", "\n", "9", "42", "9a", "9A", "0x", "--", "->-", ">", ">=", "<=", "=>", "===", "!", "?", ".", ",", "_", "a_", "_a", "a'", "a-b",
		"()", "{}", "((", "a b", " a", "a ", "A ", "A\n", "of ", " of", "do\n", "= ", " =", "case of", "a\x00", "\x00", "\xff", "a\xff", "\xc3\xa9", "\xc3\x89", "a\xc3\xa9",
		strings.Repeat("a", 21), "A" + strings.Repeat("b", 20), strings.Repeat("9", 20), strings.Repeat("a", 100000), strings.Repeat("-", 100000), strings.Repeat("a", 19) + " ",
		"@", "[", "`", "a{", "a`", "a@", "a[", "a/", "a:",
	}
}

// checkNames asks what a text is.
func checkNames(t *testing.T, s string, key, name, con bool) {
	t.Helper()
	if Key(s) != key || Name(s) != name || Con(s) != con {
		t.Errorf("%.40q: Key %v, Name %v, Con %v; want %v, %v, %v", s, Key(s), Name(s), Con(s), key, name, con)
	}
}

// P2.2: key words, signs, names, constructors, and what is none of them.
func TestNames(t *testing.T) {
	for _, s := range append(keyWords(), signs()...) {
		checkNames(t, s, true, false, false)
	}
	for _, s := range []string{"a", "z", "m", "xY9", "aZ", "zA0", "cases", "cas", "o", "ofof", "doS", "dos1", "iF", "datas", strings.Repeat("a", 20), "a" + strings.Repeat("Z", 19), "z" + strings.Repeat("0", 19)} {
		checkNames(t, s, false, true, false)
	}
	for _, s := range []string{"A", "Z", "M", "Xy9", "CASE", "Case", "Of", "Do", "Z9", "Aa", strings.Repeat("A", 20), "A" + strings.Repeat("z", 19), "Z" + strings.Repeat("9", 19)} {
		checkNames(t, s, false, false, true)
	}
	for _, s := range others() {
		checkNames(t, s, false, false, false)
	}
}

// P2.2: of all texts of one byte and of two, held against the chapter's words.
func TestShortNames(t *testing.T) {
	check := func(s string) {
		k := kindOf(s)
		checkNames(t, s, k == api.TKey, k == api.TName, k == api.TCon)
	}
	for a := range 256 {
		check(string([]byte{byte(a)}))
		for b := range 256 {
			check(string([]byte{byte(a), byte(b)}))
		}
	}
}

// P2.2: what Key, Name and Con tell is what Lex makes of the text alone.
func TestNamesAgree(t *testing.T) {
	for _, s := range append(append(append(others(), keyWords()...), signs()...), "x", "X", "x1", "X1") {
		l, _, e := Lex([]byte(s))
		whole := e == api.OK && len(l) == 1 && l[0].Text == s
		checkNames(t, s, whole && l[0].Kind == api.TKey, whole && l[0].Kind == api.TName, whole && l[0].Kind == api.TCon)
	}
}

// P2.2: the Texts, whatever they are, with a byte 32 between any two; nothing else of a token is asked.
func TestText(t *testing.T) {
	for _, c := range []struct {
		texts []string
		want  string
	}{
		{nil, ""}, {[]string{""}, ""}, {[]string{"a"}, "a"}, {[]string{"a", "->"}, "a ->"}, {[]string{"f", "=", "\\", "x"}, "f = \\ x"},
		{[]string{"", ""}, " "}, {[]string{"", "a", ""}, " a "}, {[]string{"a b", "\n"}, "a b \n"}, {[]string{"\xff", "\x00"}, "\xff \x00"},
		{[]string{"007", "7"}, "007 7"},
	} {
		var l []api.Token
		for i, s := range c.texts {
			l = append(l, api.Token{Kind: i - 1, Text: s, Num: -i, Line: -5, Col: 1 << 40})
		}
		if s := Text(l); s != c.want {
			t.Errorf("Text of %q = %q; want %q", c.texts, s, c.want)
		}
	}
	if s := Text([]api.Token{}); s != "" {
		t.Errorf("%q", s)
	}
	if s := Text(make([]api.Token, 5000)); s != strings.Repeat(" ", 4999) {
		t.Errorf("%d bytes of 5000 tokens without a text", len(s))
	}
}
