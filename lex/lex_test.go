package lex_test

import (
	"math/rand"
	"slices"
	"strings"
	"testing"

	"cleat/api"
	"cleat/lex"
)

func word(s string) api.Tok { return api.Tok{Kind: 1, Text: s} }
func num(s string) api.Tok  { return api.Tok{Kind: 2, Text: s} }
func text(s string) api.Tok { return api.Tok{Kind: 3, Text: s} }
func sign(s string) api.Tok { return api.Tok{Kind: 4, Text: s} }
func char(v uint64) api.Tok { return api.Tok{Kind: 5, V: v} }

func TestLine(t *testing.T) {
	for _, x := range []struct {
		s string
		l []api.Tok
	}{
		{"", nil}, {" \t\r ", nil}, {"// all", nil}, {"  // \"", nil}, {"//\x01\n", nil},
		{"add x1, #'a' // b", []api.Tok{word("add"), word("x1"), sign(","), sign("#"), char('a')}},
		{`1f "a\n"`, []api.Tok{num("1f"), text("a\n")}},
		{"a\tb\rc", []api.Tok{word("a"), word("b"), word("c")}},
		{"_.$aZ09 .text $ _ .", []api.Tok{word("_.$aZ09"), word(".text"), word("$"), word("_"), word(".")}},
		{"0x1F.$_g 1a", []api.Tok{num("0x1F.$_g"), num("1a")}},
		{",[]#:=+-", []api.Tok{sign(","), sign("["), sign("]"), sign("#"), sign(":"), sign("="), sign("+"), sign("-")}},
		{"a//b", []api.Tok{word("a")}},
		{`"a//b"'/'//`, []api.Tok{text("a//b"), char('/')}},
		{`""`, []api.Tok{text("")}},
		{`"\n\t\0\\\"\'"`, []api.Tok{text("\n\t\x00\\\"'")}},
		{`"'"'"'`, []api.Tok{text("'"), char('"')}},
		{`'\n''\t''\0''\\''\"''\''`, []api.Tok{char(10), char(9), char(0), char(92), char(34), char(39)}},
		{"\"\u00e9\u20ac\U0001f600\"'\u00e9''\U0010ffff'", []api.Tok{text("\u00e9\u20ac\U0001f600"), char(0xe9), char(0x10ffff)}},
		{"'\ufffd'\"\ufffd\x7f\"", []api.Tok{char(0xfffd), text("\ufffd\x7f")}},
		{`x"a"1'b'`, []api.Tok{word("x"), text("a"), num("1"), char('b')}},
		{"1:a:", []api.Tok{num("1"), sign(":"), word("a"), sign(":")}},
		{"a // \u00e9 ' \"", []api.Tok{word("a")}},
		{strings.Repeat("a", 200), []api.Tok{word(strings.Repeat("a", 200))}},
	} {
		if l, e := lex.Line(x.s); !slices.Equal(l, x.l) || e != api.OK {
			t.Errorf("Line(%q): %v, %d", x.s, l, e)
		}
	}
}

func TestLineWrong(t *testing.T) {
	for _, s := range []string{"/", "a / b", "/ /", "\"", "\"a", "'", "'a", "''", "'ab'", "'''", "\"\\", "\"\\a\"", "'\\x'", "\"\\N\"", "\"\x1f\"", "\"\t\"", "'\t'", "'\n'", "\"\r\"", "\"\x00\"", "a\nb", "\x00", "\x7f", "\u00e9", "a;", "!", "@", "(", "*", "\\", "{", "%", "a\u00a0b", "\xff", "// \xff", "\"\xc0\x80\"", "\"\xed\xa0\x80\"", "'\xf4\x90\x80\x80'", "'\xe2\x82'", "\"\\\"", "'\\'", "\v", "\f", "a&b", "\"a\\\u00e9\""} {
		if l, e := lex.Line(s); len(l) != 0 || e != api.ErrForm {
			t.Errorf("Line(%q): %v, %d", s, l, e)
		}
	}
	for _, s := range []string{strings.Repeat("a", 201), strings.Repeat(" ", 201), strings.Repeat("\xff", 201), strings.Repeat("!", 300), "//" + strings.Repeat("\u00e9", 100)} {
		if l, e := lex.Line(s); len(l) != 0 || e != api.ErrLimit {
			t.Errorf("Line of %d bytes: %v, %d", len(s), l, e)
		}
	}
	if _, e := lex.Line("//" + strings.Repeat("\u00e9", 99)); e != api.OK {
		t.Errorf("Line of 200 bytes: %d", e)
	}
}

func TestIsWord(t *testing.T) {
	for s, want := range map[string]bool{
		"a": true, "Z9": true, "_": true, ".": true, "$1": true, "b.eq": true, strings.Repeat("a", 31): true,
		"": false, "1": false, "1a": false, "a b": false, "a-": false, "a\u00e9": false, "\u00e9": false, "\xff": false, "a\xff": false, "a\x00": false, strings.Repeat("a", 32): false, "a\n": false, "@": false, "`": false, "[": false, "{": false, "/": false, "a:": false,
	} {
		if lex.IsWord(s) != want {
			t.Errorf("IsWord(%q): %v", s, !want)
		}
	}
	for c := range 256 {
		s := string([]byte{byte(c)})
		want := strings.Contains("abcdefghijklmnopqrstuvwxyzABCDEFGHIJKLMNOPQRSTUVWXYZ_.$", s)
		if lex.IsWord(s) != want {
			t.Errorf("IsWord(%q): %v", s, !want)
		}
		if later := want || c >= '0' && c <= '9'; lex.IsWord("a"+s) != later {
			t.Errorf("IsWord(%q): %v", "a"+s, !later)
		}
	}
}

func TestRunes(t *testing.T) {
	for _, x := range []struct {
		s string
		l []int
	}{
		{"", nil}, {"a\x00\n", []int{97, 0, 10}}, {"\u00e9\u20ac\U0001f600\ufffd", []int{0xe9, 0x20ac, 0x1f600, 0xfffd}}, {"\U0010ffff\ud7ff\ue000", []int{0x10ffff, 0xd7ff, 0xe000}},
	} {
		if l, e := lex.Runes(x.s); !slices.Equal(l, x.l) || e != api.OK {
			t.Errorf("Runes(%q): %v, %d", x.s, l, e)
		}
	}
	for _, s := range []string{"\xff", "a\x80", "\xc3", "\xc0\x80", "\xc1\xbf", "\xe0\x9f\xbf", "\xed\xa0\x80", "\xed\xbf\xbf", "\xf0\x8f\xbf\xbf", "\xf4\x90\x80\x80", "\xf5\x80\x80\x80", "\xe2\x82", "a\xe2\x82a"} {
		if l, e := lex.Runes(s); len(l) != 0 || e != api.ErrForm {
			t.Errorf("Runes(%q): %v, %d", s, l, e)
		}
	}
}

func TestQuote(t *testing.T) {
	for _, x := range [][2]string{
		{"", `""`}, {"a'b", `"a'b"`}, {"\x00\t\n\\\"", `"\0\t\n\\\""`}, {"\u00e9\x7f//", "\"\u00e9\x7f//\""},
	} {
		if q, e := lex.Quote(x[0]); q != x[1] || e != api.OK {
			t.Errorf("Quote(%q): %q, %d", x[0], q, e)
		}
	}
	for c := range 32 {
		if c == 0 || c == 9 || c == 10 {
			continue
		}
		s := "a" + string(rune(c))
		if q, e := lex.Quote(s); q != "" || e != api.ErrForm {
			t.Errorf("Quote(%q): %q, %d", s, q, e)
		}
	}
	for _, s := range []string{"\xff", "a\xc3", "\xed\xa0\x80"} {
		if q, e := lex.Quote(s); q != "" || e != api.ErrForm {
			t.Errorf("Quote(%q): %q, %d", s, q, e)
		}
	}
}

// TestFollows holds P9.4.
func TestFollows(t *testing.T) {
	r := rand.New(rand.NewSource(1))
	parts := []string{"add", "x1", ",", "[", "#", "12", "0x", `"a b"`, `'a'`, "=", "+", "-", ":", "]", "1f", `"//"`, ".x"}
	runes := []rune{0, 9, 10, 32, '"', '\\', '\'', 'n', 'a', '/', 0xe9, 0x20ac, 0x1f600, 0xfffd, 127}
	for range 500 {
		var s []rune
		for range r.Intn(20) {
			s = append(s, runes[r.Intn(len(runes))])
		}
		q, e := lex.Quote(string(s))
		l, f := lex.Line(q)
		if e != api.OK || f != api.OK || len(l) != 1 || l[0] != text(string(s)) {
			t.Fatalf("Line(Quote(%q)): %v, %d, %d", string(s), l, e, f)
		}
		var one, two, wide []string
		for range 1 + r.Intn(8) {
			one = append(one, parts[r.Intn(len(parts))])
			two = append(two, parts[r.Intn(len(parts))])
		}
		for _, p := range one {
			wide = append(wide, " \t", p, strings.Repeat(" ", r.Intn(3)))
		}
		a, e := lex.Line(strings.Join(one, " "))
		b, _ := lex.Line(strings.Join(wide, " ") + "// x")
		if e != api.OK || !slices.Equal(a, b) {
			t.Fatalf("Line(%q): %v, %d; with white %v", one, a, e, b)
		}
		c, _ := lex.Line(strings.Join(two, " "))
		d, _ := lex.Line(strings.Join(one, " ") + " " + strings.Join(two, " "))
		if !slices.Equal(d, append(slices.Clone(a), c...)) {
			t.Fatalf("%q and %q: %v", one, two, d)
		}
	}
}
