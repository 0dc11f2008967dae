package asm_test

import (
	"fmt"
	"slices"
	"strings"
	"testing"

	"cleat/api"
	"cleat/asm"
	"cleat/code"
	"cleat/line"
	"cleat/part"
)

// show writes an object down, so that objects may be compared and told.
func show(o api.Object) string {
	var b strings.Builder
	for _, s := range o.Secs {
		fmt.Fprintf(&b, "sec %s %d %v %d %x", s.Name, s.Kind, s.Keep, s.Align, s.Data)
		for _, r := range s.Rels {
			fmt.Fprintf(&b, " [%d %d %d %d]", r.At, r.Kind, r.Sym, r.Add)
		}
		b.WriteString("\n")
	}
	for _, s := range o.Syms {
		fmt.Fprintf(&b, "sym %q %d %d %d\n", s.Name, s.Bind, s.Sec, s.Off)
	}
	return b.String()
}

func lines(l ...string) string { return strings.Join(l, "\n") }

// word is the bytes of a line's instruction, its needs left out.
func word(t *testing.T, s string) string {
	t.Helper()
	i, _, e := line.Plain(s)
	if e != api.OK {
		t.Fatalf("Plain(%q): %d", s, e)
	}
	w, _ := code.Encode(i)
	return string([]byte{byte(w), byte(w >> 8), byte(w >> 16), byte(w >> 24)})
}

func zeros(n int) string { return strings.Repeat("\x00", n) }

func TestLines(t *testing.T) {
	for _, x := range []struct {
		s string
		l []string
	}{{"", nil}, {"a", []string{"a"}}, {"a\n", []string{"a"}}, {"a\nb", []string{"a", "b"}}, {"\n", []string{""}}, {"\n\na\r\n\n", []string{"", "", "a\r", ""}}, {"a\n\xff", []string{"a", "\xff"}}, {" ", []string{" "}}} {
		if l := asm.Lines(x.s); !slices.Equal(l, x.l) {
			t.Errorf("Lines(%q): %q", x.s, l)
		}
	}
}

type rels = []api.Rel

type secs = []api.Sec

type syms = []api.Sym

func TestAssemble(t *testing.T) {
	bl, b, ldr, nop := word(t, "bl a"), word(t, "b a"), word(t, "ldr x0, a"), word(t, "nop")
	for k, x := range []struct {
		s string
		o api.Object
	}{
		{"", api.Object{}},
		{"// a\n \n", api.Object{}},
		{lines(".text a", "1: b 1b"), api.Object{Secs: secs{{Name: "a", Kind: 1, Data: b, Rels: rels{{At: 0, Kind: 2, Sym: 0}}}}, Syms: syms{{Bind: 1}}}},
		{lines(".text a", "ldr x0, =7"), api.Object{Secs: secs{{Name: "a", Kind: 1, Align: 3, Data: ldr + zeros(4) + "\x07" + zeros(7), Rels: rels{{At: 0, Kind: 4}}}}, Syms: syms{{Bind: 1, Off: 8}}}},
		{lines(".text a", ".rodata b, keep", ".data c", ".text a", "nop", ".rodata b", ".byte 1", ".data c, keep", ".byte 2", ".text a, keep+0"), api.Object{Secs: secs{{Name: "a", Kind: 1, Keep: true, Data: nop}, {Name: "b", Kind: 2, Keep: true, Data: "\x01"}, {Name: "c", Kind: 3, Keep: true, Data: "\x02"}}}},
		{lines(".global m", ".text t", "m: w: l:", ".weak w", ".weak v", ".global g", "bl far", "bl v", "bl l+4"), api.Object{
			Secs: secs{{Name: "t", Kind: 1, Data: bl + bl + bl, Rels: rels{{At: 0, Kind: 2, Sym: 5}, {At: 4, Kind: 2, Sym: 3}, {At: 8, Kind: 2, Sym: 2, Add: 4}}}},
			Syms: syms{{Name: "m", Bind: 2}, {Name: "w", Bind: 3}, {Name: "l", Bind: 1}, {Name: "v", Bind: 3, Sec: -1}, {Name: "g", Bind: 2, Sec: -1}, {Name: "far", Bind: 2, Sec: -1}}}},
		{lines(".data d", ".byte 255, 'a', 0x10, -0", ".ascii \"x\\n\\0\"", ".align 3", ".space 2", ".space 0", ".align 1", "1: .quad 1, -1, d1+8", "d1:", ".quad d1-8, 1b+2", ".ascii \"\""), api.Object{
			Secs: secs{{Name: "d", Kind: 3, Align: 3, Data: "\xffa\x10\x00x\n\x00\x00" + zeros(2) + "\x01" + zeros(7) + "\xff\xff\xff\xff\xff\xff\xff\xff" + zeros(24), Rels: rels{{At: 26, Kind: 1, Sym: 1, Add: 8}, {At: 34, Kind: 1, Sym: 1, Add: -8}, {At: 42, Kind: 1, Sym: 0, Add: 2}}}},
			Syms: syms{{Bind: 1, Off: 10}, {Name: "d1", Bind: 1, Off: 34}}}},
		{lines(".text a", "1:", "b 1f", "1: 1: b 1b", "b 1f-4", "1:"), api.Object{
			Secs: secs{{Name: "a", Kind: 1, Data: b + b + b, Rels: rels{{At: 0, Kind: 2, Sym: 1}, {At: 4, Kind: 2, Sym: 2}, {At: 8, Kind: 2, Sym: 3, Add: -4}}}},
			Syms: syms{{Bind: 1}, {Bind: 1, Off: 4}, {Bind: 1, Off: 4}, {Bind: 1, Off: 12}}}},
		{lines(".text a", "b 0012f", ".text c", "12: b 12b"), api.Object{
			Secs: secs{{Name: "a", Kind: 1, Data: b, Rels: rels{{Kind: 2}}}, {Name: "c", Kind: 1, Data: b, Rels: rels{{Kind: 2}}}}, Syms: syms{{Bind: 1, Sec: 1}}}},
		{lines(".text a", "ldr x0, =z", "ldr x0, =7", ".text c", "ldr x0, =7", ".text a", "ldr x0, =-1", "ldr x0, =z+0", ".pool", "ldr x0, =7", ".pool", ".pool", "1: y:"), api.Object{
			Secs: secs{
				{Name: "a", Kind: 1, Align: 3, Data: ldr + ldr + ldr + ldr + zeros(8) + "\x07" + zeros(7) + "\xff\xff\xff\xff\xff\xff\xff\xff" + ldr + zeros(4) + "\x07" + zeros(7), Rels: rels{{At: 0, Kind: 4, Sym: 1}, {At: 4, Kind: 4, Sym: 2}, {At: 8, Kind: 4, Sym: 3}, {At: 12, Kind: 4, Sym: 1}, {At: 16, Kind: 1, Sym: 6}, {At: 40, Kind: 4, Sym: 4}}},
				{Name: "c", Kind: 1, Align: 3, Data: ldr + zeros(4) + "\x07" + zeros(7), Rels: rels{{At: 0, Kind: 4, Sym: 5}}}},
			Syms: syms{{Bind: 1, Off: 56}, {Bind: 1, Off: 16}, {Bind: 1, Off: 24}, {Bind: 1, Off: 32}, {Bind: 1, Off: 48}, {Bind: 1, Sec: 1, Off: 8}, {Name: "z", Bind: 2, Sec: -1}, {Name: "y", Bind: 1, Off: 56}}}},
		{lines(".text a", "ldr x0, =q", "bl p", ".quad q, p"), api.Object{
			Secs: secs{{Name: "a", Kind: 1, Align: 3, Data: ldr + bl + zeros(24), Rels: rels{{At: 0, Kind: 4, Sym: 0}, {At: 4, Kind: 2, Sym: 2}, {At: 8, Kind: 1, Sym: 1}, {At: 16, Kind: 1, Sym: 2}, {At: 24, Kind: 1, Sym: 1}}}},
			Syms: syms{{Bind: 1, Off: 24}, {Name: "q", Bind: 2, Sec: -1}, {Name: "p", Bind: 2, Sec: -1}}}},
		{lines(".rodata r", "nop", "csel x1, x2, x3, eq"), api.Object{Secs: secs{{Name: "r", Kind: 2, Data: nop + word(t, "csel x1, x2, x3, eq")}}}},
		{lines(".text a", "a: b a", ".text: .quad .text"), api.Object{
			Secs: secs{{Name: "a", Kind: 1, Data: b + zeros(8), Rels: rels{{At: 0, Kind: 2}, {At: 4, Kind: 1, Sym: 1}}}}, Syms: syms{{Name: "a", Bind: 1}, {Name: ".text", Bind: 1, Off: 4}}}},
		{".text a\r\n nop \r\n\tb.ne a+4 // x\r\n", api.Object{
			Secs: secs{{Name: "a", Kind: 1, Data: nop + word(t, "b.ne a"), Rels: rels{{At: 4, Kind: 3, Add: 4}}}}, Syms: syms{{Name: "a", Bind: 2, Sec: -1}}}},
		{lines(".text a", "x: .text b", "bl x"), api.Object{Secs: secs{{Name: "a", Kind: 1}, {Name: "b", Kind: 1, Data: bl, Rels: rels{{Kind: 2}}}}, Syms: syms{{Name: "x", Bind: 1}}}},
		{lines(".global a+0", ".global keep", ".text keep, keep"), api.Object{Secs: secs{{Name: "keep", Kind: 1, Keep: true}}, Syms: syms{{Name: "a", Bind: 2, Sec: -1}, {Name: "keep", Bind: 2, Sec: -1}}}},
	} {
		o, f := asm.Assemble(x.s)
		if show(o) != show(x.o) || f != (api.Fail{}) {
			t.Errorf("%d: %q: %v\n%snot\n%s", k, x.s, f, show(o), show(x.o))
		}
	}
}

func TestNeeds(t *testing.T) {
	for s, kind := range map[string]int{"bl q-8": 2, "b.lt q-8": 3, "cbz x3, q-8": 3, "ldr x3, q-8": 4, "adr x3, q-8": 5, "adrp x3, q-8": 6, "add x3, x4, :lo12:q-8": 7, "ldr x3, [x4, :lo12:q-8]": 8, "strb x3, [x4, :lo12:q-8]": 9} {
		o, f := asm.Assemble(lines(".text a", "nop", s))
		want := api.Object{Secs: secs{{Name: "a", Kind: 1, Data: word(t, "nop") + word(t, s), Rels: rels{{At: 4, Kind: kind, Add: -8}}}}, Syms: syms{{Name: "q", Bind: 2, Sec: -1}}}
		if show(o) != show(want) || f != (api.Fail{}) {
			t.Errorf("%q: %v, %s", s, f, show(o))
		}
	}
}

// TestFails tells a line's error behind three lines that are right: the third one begins a section of code, if with is said.
func TestFails(t *testing.T) {
	for _, x := range []struct {
		s    string
		with bool
		e    api.Errno
	}{
		{strings.Repeat("a", 201), true, api.ErrLimit}, {"\"", true, api.ErrForm}, {"\xff", true, api.ErrForm}, {"x1: nop", true, api.ErrForm}, {"1f:", true, api.ErrForm}, {"12345:", true, api.ErrForm},
		{"a:", false, api.ErrArg}, {"1:", false, api.ErrArg}, {"a: .text b", false, api.ErrArg}, {"a: zzz", false, api.ErrArg}, {"a: x1: zzz", false, api.ErrForm}, {"a: 5", false, api.ErrArg},
		{"a: a:", true, api.ErrTwice}, {"a: a: zzz", true, api.ErrTwice}, {"here:", true, api.ErrTwice}, {"here: 5", true, api.ErrTwice},
		{"5", true, api.ErrForm}, {"5", false, api.ErrForm}, {"#", true, api.ErrForm}, {"\"a\"", true, api.ErrForm}, {"1: 'a'", true, api.ErrForm},
		{".text", true, api.ErrForm}, {".text 5", true, api.ErrForm}, {".text a+1", true, api.ErrForm}, {".text x1", true, api.ErrForm}, {".text 1f", true, api.ErrForm}, {".text a b", true, api.ErrForm}, {".text a, kept", true, api.ErrForm}, {".text a, keep+1", true, api.ErrForm}, {".text a, keep, keep", true, api.ErrForm}, {".text a, 5", true, api.ErrForm}, {".text \"a\"", true, api.ErrForm}, {".text [x1]", true, api.ErrForm}, {".data =a", true, api.ErrForm}, {".rodata #:lo12:a", true, api.ErrForm}, {".text a,", true, api.ErrForm}, {".text 18446744073709551616", true, api.ErrRange}, {".text 18446744073709551616 5", true, api.ErrForm},
		{".data code", true, api.ErrTwice}, {".rodata code", true, api.ErrTwice}, {".rodata code, keep", true, api.ErrTwice},
		{".global", true, api.ErrForm}, {".global 5", true, api.ErrForm}, {".global a, b", true, api.ErrForm}, {".global 1f", false, api.ErrForm}, {".weak a+1", false, api.ErrForm}, {".global told", false, api.ErrTwice}, {".weak told", false, api.ErrTwice},
		{".align", false, api.ErrForm}, {".align 1", false, api.ErrArg}, {".align 13", false, api.ErrArg}, {".align 13", true, api.ErrRange}, {".align 18446744073709551615", true, api.ErrRange}, {".align -1", true, api.ErrForm}, {".align a", true, api.ErrForm}, {".align 1, 2", true, api.ErrForm},
		{".space", true, api.ErrForm}, {".space 1", false, api.ErrArg}, {".space 4097", true, api.ErrRange}, {".space 18446744073709551615", true, api.ErrRange}, {".space -1", true, api.ErrForm}, {".space 4096", true, api.ErrLimit}, {".align 12", true, api.OK},
		{".quad", true, api.ErrForm}, {".quad 1", false, api.ErrArg}, {".quad 1, x1", true, api.ErrForm}, {".quad =1", true, api.ErrForm}, {".quad [x1]", true, api.ErrForm}, {".quad lsl 1", true, api.ErrForm}, {".quad #:lo12:a", true, api.ErrForm}, {".quad 1,", true, api.ErrForm}, {".quad x1", false, api.ErrForm}, {".quad 18446744073709551616", true, api.ErrRange}, {".quad 18446744073709551616", false, api.ErrRange}, {".quad \"a\"", true, api.ErrForm},
		{".byte", true, api.ErrForm}, {".byte 1", false, api.ErrArg}, {".byte 256", false, api.ErrArg}, {".byte 1, 256", true, api.ErrRange}, {".byte -1", true, api.ErrForm}, {".byte 256, -1", true, api.ErrForm}, {".byte a", true, api.ErrForm}, {".byte x1", true, api.ErrForm},
		{".ascii", true, api.ErrForm}, {".ascii \"a\", \"b\"", true, api.ErrForm}, {".ascii \"a\" \"b\"", true, api.ErrForm}, {".ascii a", true, api.ErrForm}, {".ascii 'a'", true, api.ErrForm}, {".ascii 5", false, api.ErrForm}, {".ascii \"a\"", false, api.ErrArg}, {".ascii 18446744073709551616", true, api.ErrForm},
		{".pool", false, api.ErrArg}, {".pool 1", true, api.ErrForm}, {".pool a", false, api.ErrForm}, {".pool 18446744073709551616", true, api.ErrRange}, {".pool \"a\"", true, api.ErrForm},
		{"zzz", true, api.ErrName}, {"zzz", false, api.ErrName}, {".zzz", true, api.ErrName}, {".texts a", true, api.ErrName}, {".word 5", true, api.ErrName}, {"zzz \"a\"", true, api.ErrForm}, {"zzz 18446744073709551616", true, api.ErrRange}, {"nop 5", false, api.ErrArg}, {"add x1, x2, #4096", false, api.ErrRange}, {"ldr x1, [x2", true, api.ErrForm},
		{"ldr x1, =1f", true, api.ErrForm}, {"ldr x1, =1f", false, api.ErrForm}, {"ldr x1, =1b+4", true, api.ErrForm}, {"nop", false, api.ErrArg}, {"ldr x1, =5", false, api.ErrArg}, {"b 1f", false, api.ErrArg},
		{"b 1f", true, api.ErrName}, {"b 1b", true, api.ErrName}, {".quad 2b", true, api.ErrName},
	} {
		start := lines(".global told", "//", "")
		if x.with {
			start = lines(".global told", ".text code", "here: nop")
		}
		o, f := asm.Assemble(start + "\n" + x.s)
		if x.e == api.OK {
			if f != (api.Fail{}) {
				t.Errorf("%q: %v", x.s, f)
			}
			continue
		}
		at := 4
		if f != (api.Fail{Code: x.e, Line: at}) || show(o) != "" {
			t.Errorf("%q (%v): %v, %q, not %d", x.s, x.with, f, show(o), x.e)
		}
	}
}

func many(n int, f func(k int) string) string {
	var l []string
	for k := range n {
		l = append(l, f(k))
	}
	return strings.Join(l, "\n") + "\n"
}

func TestLimits(t *testing.T) {
	text := func(s string) func(int) string {
		return func(k int) string { return strings.ReplaceAll(s, "%", fmt.Sprint(k)) }
	}
	full := ".text a\n.space 4000\n"
	for k, x := range []struct {
		s string
		f api.Fail
	}{
		{strings.Repeat("\n", 20000), api.Fail{}}, {strings.Repeat("\n", 20001), api.Fail{Code: api.ErrLimit}}, {"\xff" + strings.Repeat("\n", 20000), api.Fail{Code: api.ErrLimit}},
		{many(32, text(".text s%")), api.Fail{}}, {many(33, text(".text s%")), api.Fail{Code: api.ErrLimit, Line: 33}}, {many(32, text(".text s%")) + ".text s0\n.data s1", api.Fail{Code: api.ErrTwice, Line: 34}}, {many(32, text(".text s%")) + ".text q, keep", api.Fail{Code: api.ErrLimit, Line: 33}},
		{".text a\n" + many(128, text("s%:")), api.Fail{}}, {".text a\n" + many(129, text("s%:")), api.Fail{Code: api.ErrLimit}}, {".text a\n" + many(128, text("1:")), api.Fail{}}, {".text a\n" + many(129, text("1:")), api.Fail{Code: api.ErrLimit}},
		{".text a\n" + many(100, text("s%:")) + many(28, text("ldr x0, =%")), api.Fail{}}, {".text a\n" + many(100, text("s%:")) + many(29, text("ldr x0, =%")), api.Fail{Code: api.ErrLimit}},
		{".text a\n" + many(129, text("1:")) + "b 2f\n", api.Fail{Code: api.ErrName, Line: 131}},
		{".text a\n" + many(64, text("bl q")), api.Fail{}}, {".text a\n" + many(65, text("bl q")), api.Fail{Code: api.ErrLimit, Line: 66}},
		{".text a\n" + many(64, text("ldr x0, =%")) + "ldr x1, =0\n", api.Fail{Code: api.ErrLimit, Line: 66}},
		{".text a\n" + many(64, text("ldr x0, =%")), api.Fail{}}, {".text a\n" + many(60, text("ldr x0, =%")) + many(5, text("ldr x0, =w%")), api.Fail{Code: api.ErrLimit, Line: 66}},
		{".text a\n" + many(40, text("ldr x0, =w%")), api.Fail{Code: api.ErrLimit}}, {".text a\n" + many(40, text("ldr x0, =w%")) + ".pool", api.Fail{Code: api.ErrLimit, Line: 42}}, {".text a\n" + many(32, text("ldr x0, =w%")) + ".pool", api.Fail{}},
		{full + many(24, text("nop")), api.Fail{}}, {full + many(25, text("nop")), api.Fail{Code: api.ErrLimit, Line: 27}}, {full + ".quad 1,2,3,4,5,6,7,8,9,10,11,12", api.Fail{}}, {full + ".quad 1,2,3,4,5,6,7,8,9,10,11,12,13", api.Fail{Code: api.ErrLimit, Line: 3}},
		{full + ".space 96\n.byte 256", api.Fail{Code: api.ErrRange, Line: 4}}, {full + ".space 96\n.byte 1", api.Fail{Code: api.ErrLimit, Line: 4}}, {full + ".space 96\n.ascii \"a\"", api.Fail{Code: api.ErrLimit, Line: 4}}, {full + ".space 96\n.ascii \"\"", api.Fail{}}, {full + ".align 12\n.space 1", api.Fail{Code: api.ErrLimit, Line: 4}},
		{full + ".space 88\nldr x0, =5\n", api.Fail{Code: api.ErrLimit}}, {full + ".space 84\nldr x0, =5\n", api.Fail{}}, {full + ".space 88\nldr x0, =5\n.pool\n", api.Fail{Code: api.ErrLimit, Line: 5}},
		{".text a\n.byte 1\nnop", api.Fail{Code: api.ErrAlign, Line: 3}}, {".text a\n.byte 1\nldr x0, =5", api.Fail{Code: api.ErrAlign, Line: 3}}, {".data a\nbl q", api.Fail{Code: api.ErrArg, Line: 2}}, {".rodata a\nldr x0, =5", api.Fail{Code: api.ErrArg, Line: 2}}, {".data a\n.byte 1\nbl q", api.Fail{Code: api.ErrAlign, Line: 3}},
		{".text a\n" + many(64, text("ldr x0, =%")) + ".byte 1\nldr x0, =99", api.Fail{Code: api.ErrLimit, Line: 67}},
		{".text a\nb 5f\nzzz", api.Fail{Code: api.ErrName, Line: 3}}, {".text a\nb 5f\nnop 5", api.Fail{Code: api.ErrArg, Line: 3}}, {".text a\nnop\n.quad 5f\nb 6b\n", api.Fail{Code: api.ErrName, Line: 3}}, {".text a\nb 1f\n1: b 1f", api.Fail{Code: api.ErrName, Line: 3}}, {".text a\n b 1b\n1:", api.Fail{Code: api.ErrName, Line: 2}},
		{".text a\nb 5f\n" + many(40, text("ldr x0, =w%")), api.Fail{Code: api.ErrName, Line: 2}},
		{".text a\n" + many(129, text("s%:")) + many(40, text("ldr x0, =w%")), api.Fail{Code: api.ErrLimit}},
	} {
		o, f := asm.Assemble(x.s)
		if f != x.f || f.Code != api.OK && show(o) != "" {
			t.Errorf("%d: %v, not %v", k, f, x.f)
		}
	}
}

// TestFollows holds P17.3: bytes are those of the lines, blank lines and remarks turn nothing, and all is the same again.
func TestFollows(t *testing.T) {
	l := []string{".global m", ".text t", "m: ldr x0, =7", "1: bl far", "b 1b", ".data d, keep", ".byte 1,2,3", ".align 3", "v: .quad m, v+1, 5", ".text t", "ldr x1, =v", ".pool", "adr x2, 1f", "1: ret", ".weak far", ".ascii \"q\""}
	o, f := asm.Assemble(lines(l...))
	if f != (api.Fail{}) || len(o.Secs) != 2 || len(o.Syms) != 7 {
		t.Fatalf("%v: %s", f, show(o))
	}
	var wide []string
	for _, s := range l {
		wide = append(wide, "", "  // nop", " \t"+s+" // zzz: x", "")
	}
	for _, s := range []string{lines(l...), lines(l...) + "\n", lines(wide...)} {
		if p, f := asm.Assemble(s); show(p) != show(o) || f != (api.Fail{}) {
			t.Errorf("again: %v, %s", f, show(p))
		}
	}
	p, _ := asm.Assemble(lines(l...))
	p.Secs[0].Rels[0].Add, p.Syms[0].Off = 99, 99
	if q, _ := asm.Assemble(lines(l...)); show(q) != show(o) {
		t.Error("objects share their memory")
	}
	for _, s := range o.Secs {
		if !part.Is(s) {
			t.Errorf("%v is not right", s)
		}
	}
	want := word(t, "ldr x0, a") + word(t, "bl a") + word(t, "b a") + word(t, "ldr x1, a") + "\x07" + zeros(7) + zeros(8) + word(t, "adr x2, a") + word(t, "ret") + "q"
	if o.Secs[0].Data != want {
		t.Errorf("%x, not %x", o.Secs[0].Data, want)
	}
}
