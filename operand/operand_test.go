package operand_test

import (
	"math"
	"math/rand"
	"slices"
	"strconv"
	"strings"
	"testing"

	"cleat/api"
	"cleat/lex"
	"cleat/operand"
)

const most = uint64(math.MaxUint64)

func toks(t *testing.T, s string) []api.Tok {
	t.Helper()
	l, e := lex.Line(s)
	if e != api.OK {
		t.Fatalf("Line(%q): %d", s, e)
	}
	return l
}

func TestReg(t *testing.T) {
	for n := range 31 {
		s := "x" + strconv.Itoa(n)
		if m, stack, e := operand.Reg(s); m != n || stack || e != api.OK {
			t.Errorf("Reg(%q): %d, %v, %d", s, m, stack, e)
		}
		if text, e := operand.RegText(n, false); text != s || e != api.OK {
			t.Errorf("RegText(%d): %q, %d", n, text, e)
		}
		if text, e := operand.RegText(n, true); text != "" || e != api.ErrArg {
			t.Errorf("RegText(%d, stack): %q, %d", n, text, e)
		}
	}
	for s, want := range map[string]bool{"sp": true, "xzr": false} {
		if m, stack, e := operand.Reg(s); m != 31 || stack != want || e != api.OK {
			t.Errorf("Reg(%q): %d, %v, %d", s, m, stack, e)
		}
		if text, e := operand.RegText(31, want); text != s || e != api.OK {
			t.Errorf("RegText(31, %v): %q, %d", want, text, e)
		}
	}
	for _, s := range []string{"", "x", "x31", "x00", "x01", "x032", "x99", "x100", "X1", "x-1", "x 1", "x1 ", "w1", "SP", "XZR", "lr", "r1", "x0x1", "x0x", "x1f", "1", "x\u0661", "x1844674407370955161600"} {
		if m, stack, e := operand.Reg(s); m != 0 || stack || e != api.ErrForm {
			t.Errorf("Reg(%q): %d, %v, %d", s, m, stack, e)
		}
	}
	for _, n := range []int{-1, 32, math.MaxInt, math.MinInt} {
		for _, stack := range []bool{false, true} {
			if s, e := operand.RegText(n, stack); s != "" || e != api.ErrArg {
				t.Errorf("RegText(%d, %v): %q, %d", n, stack, s, e)
			}
		}
	}
}

func TestLabel(t *testing.T) {
	for _, x := range []struct {
		s  string
		n  int
		up bool
	}{{"1f", 1, true}, {"1b", 1, false}, {"0f", 0, true}, {"9999b", 9999, false}, {"0007f", 7, true}, {"42b", 42, false}, {"123f", 123, true}} {
		if n, up, ok := operand.Label(x.s); n != x.n || up != x.up || !ok {
			t.Errorf("Label(%q): %d, %v, %v", x.s, n, up, ok)
		}
	}
	for _, s := range []string{"", "f", "b", "1", "12345f", "00001f", "1F", "1B", "1ff", "1bf", "-1f", "1 f", "af", "0x1f", "1a", "1fb", "\u0661f", "1f ", "/f", ":f"} {
		if n, up, ok := operand.Label(s); n != 0 || up || ok {
			t.Errorf("Label(%q): %d, %v, %v", s, n, up, ok)
		}
	}
}

func number(minus bool, v uint64) api.Opnd { return api.Opnd{Kind: 2, Minus: minus, V: v} }

func symbol(s string, add int) api.Opnd { return api.Opnd{Kind: 3, Sym: s, Add: add} }

func TestExpr(t *testing.T) {
	for _, x := range []struct {
		s    string
		want api.Opnd
		e    api.Errno
	}{
		{"5", number(false, 5), api.OK}, {"-5", number(true, 5), api.OK}, {"0xff", number(false, 255), api.OK}, {"'a'", number(false, 'a'), api.OK}, {"-'a'", number(true, 'a'), api.OK}, {"-0", number(false, 0), api.OK}, {"-'\\0'", number(false, 0), api.OK}, {"18446744073709551615", number(false, most), api.OK}, {"- 18446744073709551615", number(true, most), api.OK},
		{"a", symbol("a", 0), api.OK}, {"a+4", symbol("a", 4), api.OK}, {"a - 4", symbol("a", -4), api.OK}, {"a+0", symbol("a", 0), api.OK}, {"a-0", symbol("a", 0), api.OK}, {"1f", symbol("1f", 0), api.OK}, {"0001b+0x10", symbol("0001b", 16), api.OK}, {"1f-1", symbol("1f", -1), api.OK},
		{"lo12", symbol("lo12", 0), api.OK}, {"x31", symbol("x31", 0), api.OK}, {"x01", symbol("x01", 0), api.OK}, {"X1", symbol("X1", 0), api.OK}, {"eq", symbol("eq", 0), api.OK}, {".text", symbol(".text", 0), api.OK}, {"LSL", symbol("LSL", 0), api.OK}, {strings.Repeat("a", 31), symbol(strings.Repeat("a", 31), 0), api.OK},
		{"a+9223372036854775807", symbol("a", math.MaxInt), api.OK}, {"a-9223372036854775808", symbol("a", math.MinInt), api.OK},
		{"a+9223372036854775808", api.Opnd{}, api.ErrRange}, {"a-9223372036854775809", api.Opnd{}, api.ErrRange}, {"a+18446744073709551616", api.Opnd{}, api.ErrRange}, {"18446744073709551616", api.Opnd{}, api.ErrRange}, {"-18446744073709551616", api.Opnd{}, api.ErrRange},
		{"18446744073709551616 5", api.Opnd{}, api.ErrForm}, {"a+9223372036854775808+", api.Opnd{}, api.ErrForm},
		{"", api.Opnd{}, api.ErrForm}, {"x1", api.Opnd{}, api.ErrForm}, {"sp", api.Opnd{}, api.ErrForm}, {"xzr", api.Opnd{}, api.ErrForm}, {"lsl", api.Opnd{}, api.ErrForm}, {"lsr", api.Opnd{}, api.ErrForm}, {"asr", api.Opnd{}, api.ErrForm}, {"ror", api.Opnd{}, api.ErrForm},
		{"#5", api.Opnd{}, api.ErrForm}, {"#a", api.Opnd{}, api.ErrForm}, {"=a", api.Opnd{}, api.ErrForm}, {"+5", api.Opnd{}, api.ErrForm}, {"--5", api.Opnd{}, api.ErrForm}, {"-a", api.Opnd{}, api.ErrForm}, {"-1f", api.Opnd{}, api.ErrForm}, {"5+5", api.Opnd{}, api.ErrForm}, {"5 5", api.Opnd{}, api.ErrForm}, {"a b", api.Opnd{}, api.ErrForm}, {"a+", api.Opnd{}, api.ErrForm}, {"a+'b'", api.Opnd{}, api.ErrForm}, {"a+b", api.Opnd{}, api.ErrForm}, {"a+-4", api.Opnd{}, api.ErrForm}, {"a+4+4", api.Opnd{}, api.ErrForm}, {"a+1f", api.Opnd{}, api.ErrForm}, {"1z", api.Opnd{}, api.ErrForm}, {"12345f", api.Opnd{}, api.ErrForm}, {"\"a\"", api.Opnd{}, api.ErrForm}, {"-", api.Opnd{}, api.ErrForm}, {"-\"5\"", api.Opnd{}, api.ErrForm}, {"a,", api.Opnd{}, api.ErrForm}, {":lo12:a", api.Opnd{}, api.ErrForm}, {strings.Repeat("a", 32), api.Opnd{}, api.ErrForm},
	} {
		if o, e := operand.Expr(toks(t, x.s)); o != x.want || e != x.e {
			t.Errorf("Expr(%q): %v, %d", x.s, o, e)
		}
	}
}

func TestParse(t *testing.T) {
	type opnds = []api.Opnd
	for _, x := range []struct {
		s string
		l opnds
	}{
		{"", nil},
		{"x1, [sp, #8], lsl 3", opnds{{Kind: 1, Reg: 1}, {Kind: 4, Reg: 31, Stack: true, V: 8}, {Kind: 7, V: 3}}},
		{"=a+4, -1, 1f", opnds{{Kind: 5, Sym: "a", Add: 4}, {Kind: 2, Minus: true, V: 1}, {Kind: 3, Sym: "1f"}}},
		{"sp, xzr, x30", opnds{{Kind: 1, Reg: 31, Stack: true}, {Kind: 1, Reg: 31}, {Kind: 1, Reg: 30}}},
		{"5, #5, #-5, -5, #'a', #-'a', -0, #-0", opnds{{Kind: 2, V: 5}, {Kind: 2, V: 5}, {Kind: 2, Minus: true, V: 5}, {Kind: 2, Minus: true, V: 5}, {Kind: 2, V: 97}, {Kind: 2, Minus: true, V: 97}, {Kind: 2}, {Kind: 2}}},
		{"a, b+1, c-1, 9999b", opnds{{Kind: 3, Sym: "a"}, {Kind: 3, Sym: "b", Add: 1}, {Kind: 3, Sym: "c", Add: -1}, {Kind: 3, Sym: "9999b"}}},
		{"[x1]", opnds{{Kind: 4, Reg: 1}}}, {"[xzr]", opnds{{Kind: 4, Reg: 31}}}, {"[x1,8]", opnds{{Kind: 4, Reg: 1, V: 8}}}, {"[x1,#'a']", opnds{{Kind: 4, Reg: 1, V: 97}}}, {"[x1, #18446744073709551615]", opnds{{Kind: 4, Reg: 1, V: most}}},
		{"[sp, :lo12:a-4]", opnds{{Kind: 4, Reg: 31, Stack: true, Sym: "a", Add: -4}}}, {"[x2,:lo12:1b]", opnds{{Kind: 4, Reg: 2, Sym: "1b"}}},
		{"=5, =-5, =-0, ='a', =a, =1b-1, =0xff", opnds{{Kind: 5, V: 5}, {Kind: 5, Minus: true, V: 5}, {Kind: 5}, {Kind: 5, V: 97}, {Kind: 5, Sym: "a"}, {Kind: 5, Sym: "1b", Add: -1}, {Kind: 5, V: 255}}},
		{":lo12:a, #:lo12:a+1, :lo12:lo12, : lo12 : 1f", opnds{{Kind: 6, Sym: "a"}, {Kind: 6, Sym: "a", Add: 1}, {Kind: 6, Sym: "lo12"}, {Kind: 6, Sym: "1f"}}},
		{"lsl 0, lsr #1, asr 63, ror #'a', lsl 18446744073709551615", opnds{{Kind: 7}, {Kind: 7, Reg: 1, V: 1}, {Kind: 7, Reg: 2, V: 63}, {Kind: 7, Reg: 3, V: 97}, {Kind: 7, V: most}}},
		{"keep", opnds{{Kind: 3, Sym: "keep"}}}, {"lo12", opnds{{Kind: 3, Sym: "lo12"}}},
	} {
		if l, e := operand.Parse(toks(t, x.s)); !slices.Equal(l, x.l) || e != api.OK {
			t.Errorf("Parse(%q): %v, %d", x.s, l, e)
		}
	}
}

func TestParseWrong(t *testing.T) {
	for _, s := range []string{",", "x1,", ",x1", "x1 x2", "x1,,x2", "#", "#a", "#x1", "##5", "#1f", "# +5", "-x1", "[", "[x1", "[]", "[5]", "[a]", "[x1,]", "[x1,-5]", "[x1,#-5]", "[x1,a]", "[x1,x2]", "[x1, #:lo12:a]", "[x1, :lo12:5]", "[x1, :lo12:a", "[x1] 5", "[x1, 5", "[x1, 5, 5]", "x1]", "=", "=#5", "=x1", "=[x1]", "=lsl", "==5", ":lo12:", ":lo12:5", ":lo12:-5", ":lo12:x1", ":lo12 a", ":lo:a", "lo12:a", ":LO12:a", "::lo12:a", "#:lo12", "lsl", "lsl #", "lsl -1", "lsl #-1", "lsl x1", "lsl a", "lsl, 3", "\"a\"", "\"lo12\"", "5:", "a:", "+", "-", "a+", "x1+4", "5-5", "12z", "lsl 1z", "[x1, 1z]", "a+1z", "=1z", "18446744073709551616,", "a+18446744073709551616, 1z", "99999999999999999999, x1 x2", ":lo12:99999999999999999999"} {
		if l, e := operand.Parse(toks(t, s)); len(l) != 0 || e != api.ErrForm {
			t.Errorf("Parse(%q): %v, %d", s, l, e)
		}
	}
	for _, s := range []string{"18446744073709551616", "x1, 0x10000000000000000", "a+9223372036854775808", "=a-9223372036854775809", "[x1, 18446744073709551616]", "lsl 18446744073709551616", "=18446744073709551616", "#-18446744073709551616", ":lo12:a+9223372036854775808", "[x1, :lo12:a+99999999999999999999], x1"} {
		if l, e := operand.Parse(toks(t, s)); len(l) != 0 || e != api.ErrRange {
			t.Errorf("Parse(%q): %v, %d", s, l, e)
		}
	}
}

// TestTokens hands in tokens that no line has: their Kind, and their Text or V, alone count.
func TestTokens(t *testing.T) {
	for _, x := range []struct {
		l    []api.Tok
		want api.Opnd
		e    api.Errno
	}{
		{[]api.Tok{{Kind: 2, Text: "5", V: 9}}, number(false, 5), api.OK},
		{[]api.Tok{{Kind: 5, Text: "x1", V: most}}, number(false, most), api.OK},
		{[]api.Tok{{Kind: 1, Text: "a", V: 9}, {Kind: 4, Text: "+", V: 9}, {Kind: 2, Text: "1", V: 9}}, symbol("a", 1), api.OK},
		{[]api.Tok{{Kind: 1, Text: "1f"}}, api.Opnd{}, api.ErrForm}, {[]api.Tok{{Kind: 2, Text: "a"}}, api.Opnd{}, api.ErrForm}, {[]api.Tok{{Kind: 2, Text: "x1"}}, api.Opnd{}, api.ErrForm}, {[]api.Tok{{Kind: 3, Text: "a"}}, api.Opnd{}, api.ErrForm}, {[]api.Tok{{Kind: 1, Text: "5"}}, api.Opnd{}, api.ErrForm}, {[]api.Tok{{Kind: 1, Text: ""}}, api.Opnd{}, api.ErrForm}, {[]api.Tok{{Kind: 1, Text: "a b"}}, api.Opnd{}, api.ErrForm}, {[]api.Tok{{Kind: 0, Text: "a"}}, api.Opnd{}, api.ErrForm}, {[]api.Tok{{Kind: 6, V: 4}}, api.Opnd{}, api.ErrForm}, {[]api.Tok{{Kind: -1, Text: "5"}}, api.Opnd{}, api.ErrForm}, {[]api.Tok{{Kind: 2, Text: ""}}, api.Opnd{}, api.ErrForm},
		{[]api.Tok{{Kind: 1, Text: "-"}, {Kind: 2, Text: "5"}}, api.Opnd{}, api.ErrForm}, {[]api.Tok{{Kind: 4, Text: "-", V: 1}, {Kind: 5, V: 5}}, number(true, 5), api.OK}, {[]api.Tok{{}}, api.Opnd{}, api.ErrForm},
	} {
		given := slices.Clone(x.l)
		o, e := operand.Expr(x.l)
		l, f := operand.Parse(x.l)
		if o != x.want || e != x.e || f != x.e || e == api.OK && !slices.Equal(l, []api.Opnd{x.want}) || !slices.Equal(given, x.l) {
			t.Errorf("Expr(%v): %v, %d; %v, %d", x.l, o, e, l, f)
		}
	}
	for _, x := range []struct {
		l []api.Tok
		e api.Errno
	}{
		{[]api.Tok{{Kind: 2, Text: "x1"}}, api.ErrForm}, {[]api.Tok{{Kind: 2, Text: "lsl"}, {Kind: 2, Text: "1"}}, api.ErrForm}, {[]api.Tok{{Kind: 4, Text: ":"}, {Kind: 2, Text: "lo12"}, {Kind: 4, Text: ":"}, {Kind: 1, Text: "a"}}, api.ErrForm}, {[]api.Tok{{Kind: 1, Text: "x1"}, {Kind: 1, Text: ","}, {Kind: 1, Text: "x2"}}, api.ErrForm}, {[]api.Tok{{Kind: 4, Text: "["}, {Kind: 4, Text: "x1"}, {Kind: 4, Text: "]"}}, api.ErrForm}, {[]api.Tok{{Kind: 1, Text: "x1", V: 5}, {Kind: 4, Text: ","}, {Kind: 1, Text: "x2"}}, api.OK},
	} {
		if l, e := operand.Parse(x.l); e != x.e || (e != api.OK) != (len(l) == 0) {
			t.Errorf("Parse(%v): %v, %d", x.l, l, e)
		}
	}
}

// TestFollows holds P11.3: rows with a comma between are read as both.
func TestFollows(t *testing.T) {
	r := rand.New(rand.NewSource(1))
	parts := []string{"x1", "sp", "#5", "-7", "'a'", "a", "b+4", "1f-4", "[x1]", "[sp, #8]", "[x3, :lo12:q+1]", "=9", "=-9", "=a", "#:lo12:z", ":lo12:z-2", "lsl #3", "ror 1"}
	for range 300 {
		var one, two []string
		for range 1 + r.Intn(4) {
			one = append(one, parts[r.Intn(len(parts))])
			two = append(two, parts[r.Intn(len(parts))])
		}
		a, _ := operand.Parse(toks(t, strings.Join(one, ", ")))
		b, _ := operand.Parse(toks(t, strings.Join(two, ", ")))
		c, e := operand.Parse(toks(t, strings.Join(one, ", ")+", "+strings.Join(two, ", ")))
		if e != api.OK || len(a) != len(one) || !slices.Equal(c, append(slices.Clone(a), b...)) {
			t.Fatalf("%v and %v: %v, %d", one, two, c, e)
		}
	}
}
