package line_test

import (
	"math"
	"slices"
	"strconv"
	"strings"
	"testing"

	"cleat/api"
	"cleat/inst"
	"cleat/line"
)

const most = uint64(math.MaxUint64)

func condNames() []string {
	return []string{"eq", "ne", "hs", "lo", "mi", "pl", "vs", "vc", "hi", "ls", "ge", "lt", "gt", "le"}
}

func TestCond(t *testing.T) {
	for n, s := range condNames() {
		if m, e := line.Cond(s); m != n || e != api.OK {
			t.Errorf("Cond(%q): %d, %d", s, m, e)
		}
		if name, e := line.CondText(n); name != s || e != api.OK {
			t.Errorf("CondText(%d): %q, %d", n, name, e)
		}
	}
	for _, s := range []string{"", "EQ", "al", "nv", "cs", "cc", "eq ", "b.eq", "e"} {
		if m, e := line.Cond(s); m != 0 || e != api.ErrName {
			t.Errorf("Cond(%q): %d, %d", s, m, e)
		}
	}
	for _, n := range []int{-1, 14, 15, math.MaxInt, math.MinInt} {
		if s, e := line.CondText(n); s != "" || e != api.ErrArg {
			t.Errorf("CondText(%d): %q, %d", n, s, e)
		}
	}
}

// TestPlain has a line of each form.
func TestPlain(t *testing.T) {
	type want struct {
		s    string
		i    api.Inst
		need api.Need
	}
	var l []want
	add := func(s string, i api.Inst) { l = append(l, want{s, i, api.Need{}}) }
	lack := func(s string, i api.Inst, n api.Need) { l = append(l, want{s, i, n}) }
	for k, s := range []string{"movz", "movn", "movk"} {
		add(s+" x3, #65535", api.Inst{Op: 1 + k, D: 3, Imm: 65535})
		add(s+" xzr, 7, lsl #48", api.Inst{Op: 1 + k, D: 31, Imm: 7, Amount: 48})
	}
	for k, s := range []string{"add", "sub", "adds", "subs"} {
		add(s+" x1, sp, #1, lsl #12", api.Inst{Op: 4 + k, D: 1, N: 31, Imm: 1, Amount: 12})
		add(s+" x1, x2, 4095", api.Inst{Op: 4 + k, D: 1, N: 2, Imm: 4095})
		add(s+" x1, x2, 'a', lsl 0", api.Inst{Op: 4 + k, D: 1, N: 2, Imm: 97})
		add(s+" x1, x2, x3", api.Inst{Op: 12 + k, D: 1, N: 2, M: 3})
		add(s+" xzr, xzr, xzr, asr #63", api.Inst{Op: 12 + k, D: 31, N: 31, M: 31, Shift: 2, Amount: 63})
		add(s+" x1, x2, x3, lsr 1", api.Inst{Op: 12 + k, D: 1, N: 2, M: 3, Shift: 1, Amount: 1})
	}
	add("add sp, sp, #16", api.Inst{Op: 4, D: 31, N: 31, Imm: 16})
	add("sub sp, x1, #16", api.Inst{Op: 5, D: 31, N: 1, Imm: 16})
	add("adds xzr, sp, #16", api.Inst{Op: 6, D: 31, N: 31, Imm: 16})
	add("subs xzr, x1, -0", api.Inst{Op: 7, D: 31, N: 1})
	lack("add x1, x2, :lo12:a+4", api.Inst{Op: 4, D: 1, N: 2}, api.Need{Kind: 7, Sym: "a", Add: 4})
	lack("add sp, sp, #:lo12:1b", api.Inst{Op: 4, D: 31, N: 31}, api.Need{Kind: 7, Sym: "1b"})
	for k, s := range []string{"and", "orr", "eor", "ands"} {
		add(s+" x1, xzr, #6", api.Inst{Op: 8 + k, D: 1, N: 31, Mask: 6})
		add(s+" x1, x2, #-2", api.Inst{Op: 8 + k, D: 1, N: 2, Mask: most - 1})
		add(s+" x1, x2, 0xffffffff00000000", api.Inst{Op: 8 + k, D: 1, N: 2, Mask: 0xffffffff00000000})
		add(s+" x1, x2, x3", api.Inst{Op: 16 + k, D: 1, N: 2, M: 3})
		add(s+" x1, x2, x3, ror #5", api.Inst{Op: 16 + k, D: 1, N: 2, M: 3, Shift: 3, Amount: 5})
	}
	add("and sp, x1, #6", api.Inst{Op: 8, D: 31, N: 1, Mask: 6})
	add("orr sp, x1, #6", api.Inst{Op: 9, D: 31, N: 1, Mask: 6})
	add("eor sp, x1, #6", api.Inst{Op: 10, D: 31, N: 1, Mask: 6})
	add("ands xzr, x1, #6", api.Inst{Op: 11, D: 31, N: 1, Mask: 6})
	add("madd x1, x2, x3, x4", api.Inst{Op: 20, D: 1, N: 2, M: 3, A: 4})
	add("msub xzr, xzr, xzr, xzr", api.Inst{Op: 21, D: 31, N: 31, M: 31, A: 31})
	for k, s := range []string{"ldr", "str", "ldrb", "strb"} {
		rel := 8 + k/2
		add(s+" x1, [sp, #8]", api.Inst{Op: 22 + k, D: 1, N: 31, Imm: 8})
		add(s+" xzr, [x2]", api.Inst{Op: 22 + k, D: 31, N: 2})
		lack(s+" x1, [x2, :lo12:a-4]", api.Inst{Op: 22 + k, D: 1, N: 2}, api.Need{Kind: rel, Sym: "a", Add: -4})
	}
	add("ldr x1, [sp, 32760]", api.Inst{Op: 22, D: 1, N: 31, Imm: 32760})
	add("strb x1, [sp, 4095]", api.Inst{Op: 25, D: 1, N: 31, Imm: 4095})
	lack("ldr x2, =a+8", api.Inst{Op: 26, D: 2}, api.Need{Kind: 10, Sym: "a", Add: 8})
	lack("ldr x2, =-8", api.Inst{Op: 26, D: 2}, api.Need{Kind: 10, Minus: true, V: 8})
	lack("ldr x2, =18446744073709551615", api.Inst{Op: 26, D: 2}, api.Need{Kind: 10, V: most})
	lack("ldr x2, a", api.Inst{Op: 26, D: 2}, api.Need{Kind: 4, Sym: "a"})
	add("ldr x2, #-1048576", api.Inst{Op: 26, D: 2, Imm: -1048576})
	for _, x := range []struct {
		s       string
		op, rel int
	}{{"adr", 27, 5}, {"adrp", 28, 6}, {"cbz", 32, 3}, {"cbnz", 33, 3}} {
		lack(x.s+" x2, a-1", api.Inst{Op: x.op, D: 2}, api.Need{Kind: x.rel, Sym: "a", Add: -1})
		add(x.s+" xzr, #-8", api.Inst{Op: x.op, D: 31, Imm: -8})
	}
	add("adr x1, 1048575", api.Inst{Op: 27, D: 1, Imm: 1048575})
	for k, s := range []string{"b", "bl"} {
		lack(s+" 1f", api.Inst{Op: 29 + k}, api.Need{Kind: 2, Sym: "1f"})
		lack(s+" eq", api.Inst{Op: 29 + k}, api.Need{Kind: 2, Sym: "eq"})
		add(s+" #-134217728", api.Inst{Op: 29 + k, Imm: -134217728})
	}
	for k, s := range condNames() {
		lack("b."+s+" 1b", api.Inst{Op: 31, Cond: k}, api.Need{Kind: 3, Sym: "1b"})
		add("b."+s+" -8", api.Inst{Op: 31, Cond: k, Imm: -8})
		add("csel x1, x2, xzr, "+s, api.Inst{Op: 39, D: 1, N: 2, M: 31, Cond: k})
	}
	add("csel x1, x2, x3, ne+0", api.Inst{Op: 39, D: 1, N: 2, M: 3, Cond: 1})
	for k, s := range []string{"br", "blr", "ret"} {
		add(s+" x5", api.Inst{Op: 34 + k, N: 5})
		add(s+" xzr", api.Inst{Op: 34 + k, N: 31})
	}
	add("ret", api.Inst{Op: 36, N: 30})
	add(" nop // b", api.Inst{Op: 38})
	add("svc #65535", api.Inst{Op: 37, Imm: 65535})
	for _, x := range l {
		i, n, e := line.Plain(x.s)
		if i != x.i || n != x.need || e != api.OK || !inst.Is(i) {
			t.Errorf("Plain(%q): %v, %v, %d, not %v, %v", x.s, i, n, e, x.i, x.need)
		}
	}
}

func TestPlainWrong(t *testing.T) {
	for e, l := range map[api.Errno][]string{
		api.ErrLimit: {strings.Repeat("a", 201)},
		api.ErrForm:  {"", "  // nop", "5", "#1", "\"nop\"", "'a'", "1f nop", "nop,"},
		api.ErrName:  {"zzz", "ADD x1, x2, x3", "b.al 1f", "b. a", "b.EQ a", "b.eqq a", "mov x1, x2", "cmp x1, x2", strings.Repeat("a", 40), ".text a", "b.1 a", "add. x1", "eq"},
		api.ErrRange: {"movz x1, #65536", "movz x1, -1", "movz x1, 1, lsl 8", "movz x1, 9223372036854775808", "movz x1, #-9223372036854775809", "movz x1, 1, lsl 18446744073709551615", "movz x1, 18446744073709551616", "add x1, x2, #4096", "add x1, x2, #-1", "add x1, x2, 1, lsl 1", "add x1, x2, x3, ror 1", "add x1, x2, x3, lsl 64", "subs x1, x2, x3, lsl 9223372036854775808", "and x1, x2, #0", "and x1, x2, #-1", "and x1, x2, 5", "orr x1, x2, x3, ror 64", "ldr x1, [x2, 1]", "ldr x1, [x2, 32768]", "ldr x1, [x2, 18446744073709551615]", "strb x1, [x2, 4096]", "ldr x1, 2", "ldr x1, 1048576", "adr x1, 1048576", "adrp x1, -1048577", "b 2", "b 134217728", "b.eq 1048576", "cbz x1, 6", "svc 65536", "svc -1"},
		api.ErrArg:   {"nop x1", "ret x1, x2", "ret 5", "br", "br a", "blr sp", "ret sp", "br sp", "svc", "svc x1", "svc a", "movz x1", "movz x1, x2", "movz x1, a", "movz sp, 1", "movz x1, 1, lsr 16", "movz x1, 1, ror 0", "add x1, x2", "add x1, x2, 1, lsr 12", "add x1, x2, 1, asr 0", "add x1, x2, a", "add x1, x2, =a", "add xzr, x2, 1", "add x1, xzr, 1", "adds sp, x2, 1", "subs x1, xzr, 1", "add sp, x1, x2", "add x1, sp, x2", "add x1, x2, sp", "add x1, xzr, :lo12:a", "sub x1, x2, :lo12:a", "and x1, sp, 6", "and xzr, x1, 6", "ands sp, x1, 6", "and x1, x2, 6, lsl 1", "orr sp, x1, x2", "madd x1, x2, x3", "madd x1, x2, x3, x4, x5", "madd x1, x2, x3, sp", "madd x1, x2, x3, 4", "ldr x1, [xzr]", "str x1, [xzr, :lo12:a]", "ldr sp, [x1]", "ldr sp, =5", "ldr sp, a", "strb x1, a", "str x1, =5", "ldrb x1, =a", "ldr x1", "ldr x1, x2", "ldr [x1], x2", "adr sp, a", "adr a", "b", "b x1", "bl a, b", "b.ne x1, a", "cbz a", "cbz sp, a", "csel x1, x2, x3", "csel x1, x2, x3, al", "csel x1, x2, x3, 1", "csel x1, x2, x3, eq+1", "csel x1, x2, sp, eq", "csel sp, x2, x3, eq", "movz sp, 65536", "add x1, xzr, 4096", "movz x1, 70000, lsr 0", "csel x1, x2, x3, 1f", "movz lsl 1, 1", "nop 99", "movz 1, x1"},
	} {
		for _, s := range l {
			if i, n, f := line.Plain(s); i != (api.Inst{}) || n != (api.Need{}) || f != e {
				t.Errorf("Plain(%q): %v, %v, %d, not %d", s, i, n, f, e)
			}
		}
	}
	for _, s := range []string{"add x1,", "zzz ,", "a: nop", "\x01", "nop \xff", "ldr x1, [x2", "movz x1, 1z", "zzz x1 x2"} {
		if i, n, f := line.Plain(s); i != (api.Inst{}) || n != (api.Need{}) || f != api.ErrForm {
			t.Errorf("Plain(%q): %v, %v, %d", s, i, n, f)
		}
	}
	if _, _, e := line.Plain("zzz 18446744073709551616"); e != api.ErrRange {
		t.Errorf("a number too great goes ahead of a name: %d", e)
	}
}

// TestMake hands in operands that no tokens have.
func TestMake(t *testing.T) {
	reg := func(n int) api.Opnd { return api.Opnd{Kind: 1, Reg: n} }
	numb := func(v uint64) api.Opnd { return api.Opnd{Kind: 2, V: v} }
	type opnds = []api.Opnd
	for k, x := range []struct {
		name string
		l    opnds
		i    api.Inst
		n    api.Need
		e    api.Errno
	}{
		{"br", opnds{{Kind: 1, Reg: 5, Stack: true}}, api.Inst{Op: 34, N: 5}, api.Need{}, api.OK},
		{"br", opnds{{Kind: 1, Reg: 31, Stack: true}}, api.Inst{}, api.Need{}, api.ErrArg},
		{"br", opnds{reg(32)}, api.Inst{}, api.Need{}, api.ErrRange},
		{"br", opnds{reg(-1)}, api.Inst{}, api.Need{}, api.ErrRange},
		{"add", opnds{reg(1), reg(2), reg(math.MaxInt)}, api.Inst{}, api.Need{}, api.ErrRange},
		{"ldr", opnds{reg(1), {Kind: 4, Reg: 40}}, api.Inst{}, api.Need{}, api.ErrRange},
		{"ldr", opnds{reg(1), {Kind: 4, Reg: 2, V: 8, Minus: true}}, api.Inst{}, api.Need{}, api.ErrRange},
		{"ldr", opnds{reg(1), {Kind: 4, Reg: 2, Minus: true, Add: 5}}, api.Inst{Op: 22, D: 1, N: 2}, api.Need{}, api.OK},
		{"ldr", opnds{reg(1), {Kind: 4, Reg: 2, V: most, Minus: true, Sym: "a", Add: 5}}, api.Inst{Op: 22, D: 1, N: 2}, api.Need{Kind: 8, Sym: "a", Add: 5}, api.OK},
		{"ldr", opnds{reg(1), {Kind: 5, Sym: "a", Add: 5, Minus: true, V: 3}}, api.Inst{Op: 26, D: 1}, api.Need{Kind: 10, Sym: "a", Add: 5, Minus: true, V: 3}, api.OK},
		{"ldr", opnds{reg(1), {Kind: 3, Sym: "a", Add: 5, Minus: true, V: 3, Reg: 7}}, api.Inst{Op: 26, D: 1}, api.Need{Kind: 4, Sym: "a", Add: 5}, api.OK},
		{"movz", opnds{reg(1), numb(1), {Kind: 7, V: 16, Minus: true}}, api.Inst{Op: 1, D: 1, Imm: 1, Amount: 16}, api.Need{}, api.OK},
		{"movz", opnds{reg(1), numb(1), {Kind: 7, Reg: 4}}, api.Inst{}, api.Need{}, api.ErrArg},
		{"movz", opnds{reg(1), numb(1), {Kind: 7, Reg: -1}}, api.Inst{}, api.Need{}, api.ErrArg},
		{"add", opnds{reg(1), reg(2), reg(3), {Kind: 7, Reg: 2, V: 3, Minus: true}}, api.Inst{Op: 12, D: 1, N: 2, M: 3, Shift: 2, Amount: 3}, api.Need{}, api.OK},
		{"orr", opnds{reg(1), reg(2), reg(3), {Kind: 7, Reg: 4}}, api.Inst{}, api.Need{}, api.ErrRange},
		{"and", opnds{reg(1), reg(2), {Kind: 2, Minus: true, V: most}}, api.Inst{Op: 8, D: 1, N: 2, Mask: 1}, api.Need{}, api.OK},
		{"movz", opnds{reg(1), {Kind: 2, Minus: true}}, api.Inst{Op: 1, D: 1}, api.Need{}, api.OK},
		{"nop", opnds{{}}, api.Inst{}, api.Need{}, api.ErrArg},
		{"nop", opnds{{Kind: 8}}, api.Inst{}, api.Need{}, api.ErrArg},
		{"nop", opnds{{Kind: -1}}, api.Inst{}, api.Need{}, api.ErrArg},
		{"br", opnds{{Kind: 0, Reg: 1}}, api.Inst{}, api.Need{}, api.ErrArg},
		{"br", opnds{{Kind: math.MinInt}}, api.Inst{}, api.Need{}, api.ErrArg},
		{"zzz", opnds{{Kind: -5}}, api.Inst{}, api.Need{}, api.ErrName},
		{"", nil, api.Inst{}, api.Need{}, api.ErrName},
		{"nop", make(opnds, 1000), api.Inst{}, api.Need{}, api.ErrArg},
	} {
		given := slices.Clone(x.l)
		i, n, e := line.Make(x.name, x.l)
		if i != x.i || n != x.n || e != x.e || !slices.Equal(given, x.l) {
			t.Errorf("Make: %d: %s: %v, %v, %d", k, x.name, i, n, e)
		}
	}
}

// TestForms tries all rows of kinds, up to four, with all names: what is made is right, and what needs something has Imm 0.
func TestForms(t *testing.T) {
	names := []string{"nop", "b.eq"}
	for op := 1; op <= api.MaxOp; op++ {
		n, _ := inst.Name(op)
		names = append(names, n)
	}
	slices.Sort(names)
	names = slices.Compact(names)
	opnd := []api.Opnd{{Kind: 1, Reg: 3}, {Kind: 2, V: 4}, {Kind: 3, Sym: "eq"}, {Kind: 4, Reg: 2, V: 8}, {Kind: 5, V: 9}, {Kind: 6, Sym: "a"}, {Kind: 7}}
	counts := map[string]int{}
	var try func(l []api.Opnd, shape string)
	try = func(l []api.Opnd, shape string) {
		for _, name := range names {
			i, need, e := line.Make(name, l)
			if e == api.OK {
				counts[name]++
				if !inst.Is(i) || need.Kind != 0 && (i.Imm != 0 || need.Sym == "" && need.V == 0) {
					t.Fatalf("Make(%s, %s): %v, %v", name, shape, i, need)
				}
			} else if e != api.ErrArg && e != api.ErrRange || i != (api.Inst{}) || need != (api.Need{}) {
				t.Fatalf("Make(%s, %s): %v, %v, %d", name, shape, i, need, e)
			}
		}
		if len(l) < 4 {
			for _, o := range opnd {
				try(append(slices.Clone(l), o), shape+strconv.Itoa(o.Kind))
			}
		}
	}
	try(nil, "")
	want := map[string]int{"add": 5, "adds": 4, "sub": 4, "subs": 4, "and": 3, "ands": 3, "orr": 3, "eor": 3, "movz": 2, "movn": 2, "movk": 2, "madd": 1, "msub": 1, "ldr": 4, "str": 1, "ldrb": 1, "strb": 1, "adr": 2, "adrp": 2, "b": 2, "bl": 2, "b.eq": 2, "cbz": 2, "cbnz": 2, "br": 1, "blr": 1, "ret": 2, "svc": 1, "nop": 1, "csel": 1}
	for _, name := range names {
		if counts[name] != want[name] {
			t.Errorf("%s has %d forms, not %d", name, counts[name], want[name])
		}
	}
}
