package show_test

import (
	"math/rand"
	"slices"
	"strings"
	"testing"

	"cleat/api"
	"cleat/code"
	"cleat/line"
	"cleat/show"
)

func TestText(t *testing.T) {
	for _, x := range []struct {
		i api.Inst
		s string
	}{
		{api.Inst{Op: 4, D: 1, N: 31, Imm: 1, Amount: 12}, "add x1, sp, #1, lsl #12"},
		{api.Inst{Op: 31, Cond: 1, Imm: -8}, "b.ne #-8"},
		{api.Inst{Op: 1, D: 3, Imm: 7}, "movz x3, #7"},
		{api.Inst{Op: 2, D: 31, Imm: 0, Amount: 48}, "movn xzr, #0, lsl #48"},
		{api.Inst{Op: 3, D: 30, Imm: 65535, Amount: 16}, "movk x30, #65535, lsl #16"},
		{api.Inst{Op: 5, D: 31, N: 31, Imm: 16}, "sub sp, sp, #16"},
		{api.Inst{Op: 6, D: 31, N: 31, Imm: 16}, "adds xzr, sp, #16"},
		{api.Inst{Op: 7, D: 0, N: 1}, "subs x0, x1, #0"},
		{api.Inst{Op: 8, D: 31, N: 31, Mask: 255}, "and sp, xzr, #0xff"},
		{api.Inst{Op: 9, D: 31, N: 1, Mask: 0xfffffffffffffffe}, "orr sp, x1, #0xfffffffffffffffe"},
		{api.Inst{Op: 10, D: 1, N: 2, Mask: 6}, "eor x1, x2, #0x6"},
		{api.Inst{Op: 11, D: 31, N: 31, Mask: 1}, "ands xzr, xzr, #0x1"},
		{api.Inst{Op: 12, D: 31, N: 31, M: 31}, "add xzr, xzr, xzr"},
		{api.Inst{Op: 13, D: 1, N: 2, M: 3, Amount: 1}, "sub x1, x2, x3, lsl #1"},
		{api.Inst{Op: 14, D: 1, N: 2, M: 3, Shift: 1}, "adds x1, x2, x3, lsr #0"},
		{api.Inst{Op: 15, D: 1, N: 2, M: 3, Shift: 2, Amount: 63}, "subs x1, x2, x3, asr #63"},
		{api.Inst{Op: 16, D: 1, N: 2, M: 3, Shift: 3, Amount: 5}, "and x1, x2, x3, ror #5"},
		{api.Inst{Op: 17, D: 1, N: 31, M: 3}, "orr x1, xzr, x3"},
		{api.Inst{Op: 18, D: 1, N: 2, M: 3, Shift: 3}, "eor x1, x2, x3, ror #0"},
		{api.Inst{Op: 19, D: 1, N: 2, M: 3}, "ands x1, x2, x3"},
		{api.Inst{Op: 20, D: 1, N: 2, M: 3, A: 4}, "madd x1, x2, x3, x4"},
		{api.Inst{Op: 21, D: 31, N: 31, M: 31, A: 31}, "msub xzr, xzr, xzr, xzr"},
		{api.Inst{Op: 22, D: 31, N: 31, Imm: 8}, "ldr xzr, [sp, #8]"},
		{api.Inst{Op: 23, D: 1, N: 2}, "str x1, [x2, #0]"},
		{api.Inst{Op: 24, D: 1, N: 2, Imm: 4095}, "ldrb x1, [x2, #4095]"},
		{api.Inst{Op: 25, D: 1, N: 31, Imm: 1}, "strb x1, [sp, #1]"},
		{api.Inst{Op: 26, D: 1, Imm: -4}, "ldr x1, #-4"},
		{api.Inst{Op: 27, D: 31, Imm: 3}, "adr xzr, #3"},
		{api.Inst{Op: 28, D: 1, Imm: -1048576}, "adrp x1, #-1048576"},
		{api.Inst{Op: 29, Imm: 4}, "b #4"}, {api.Inst{Op: 30}, "bl #0"},
		{api.Inst{Op: 32, D: 31, Imm: 8}, "cbz xzr, #8"}, {api.Inst{Op: 33, D: 9, Imm: -8}, "cbnz x9, #-8"},
		{api.Inst{Op: 34, N: 31}, "br xzr"}, {api.Inst{Op: 35, N: 3}, "blr x3"}, {api.Inst{Op: 36, N: 30}, "ret x30"},
		{api.Inst{Op: 37, Imm: 1}, "svc #1"}, {api.Inst{Op: 38}, "nop"},
		{api.Inst{Op: 39, D: 1, N: 31, M: 3, Cond: 13}, "csel x1, xzr, x3, le"},
	} {
		if s, e := show.Text(x.i); s != x.s || e != api.OK {
			t.Errorf("Text(%v): %q, %d, not %q", x.i, s, e, x.s)
		}
		w, _ := code.Encode(x.i)
		if s := show.Word(w); s != x.s {
			t.Errorf("Word(%#x): %q, not %q", w, s, x.s)
		}
	}
	for _, i := range []api.Inst{{}, {Op: 40}, {Op: 4, Amount: 1}, {Op: 12, Shift: 3}, {Op: 38, Imm: 1}, {Op: 1, D: 32}, {Op: 8}, {Op: 31, Cond: 14}, {Op: 12, D: -1}} {
		if s, e := show.Text(i); s != "" || e != api.ErrArg {
			t.Errorf("Text(%v): %q, %d", i, s, e)
		}
	}
	for w, want := range map[uint32]string{0: ".word 0x0", 0xffffffff: ".word 0xffffffff", 0xabcdef: ".word 0xabcdef", 3573751839: "nop", 2432699457: "add x1, x2, #3"} {
		if s := show.Word(w); s != want {
			t.Errorf("Word(%#x): %q", w, s)
		}
	}
}

func TestList(t *testing.T) {
	nop := "\x1f\x20\x03\xd5"
	for k, x := range []struct {
		at   uint64
		data string
		l    []string
		e    api.Errno
	}{
		{0, "", nil, api.OK},
		{65536, nop + "\x00\x00\x00\x00\x41\x0c\x00\x91", []string{"0x10000: nop", "0x10004: .word 0x0", "0x10008: add x1, x2, #3"}, api.OK},
		{0, "\x01\x02\x03\x04", []string{"0x0: .word 0x4030201"}, api.OK},
		{api.MaxPlace, nop, []string{"0x4000000000000000: nop"}, api.OK},
		{api.MaxPlace + 4, "", nil, api.ErrArg}, {api.MaxPlace + 1, "a", nil, api.ErrArg}, {1, strings.Repeat("a", 4097), nil, api.ErrArg}, {0, strings.Repeat("a", 4100), nil, api.ErrArg},
		{2, nop, nil, api.ErrAlign}, {1, "", nil, api.ErrAlign}, {0, "abc", nil, api.ErrAlign}, {4, nop + "a", nil, api.ErrAlign},
	} {
		if l, e := show.List(x.at, x.data); !slices.Equal(l, x.l) || e != x.e {
			t.Errorf("List: %d: %q, %d", k, l, e)
		}
	}
	if l, e := show.List(0, strings.Repeat(nop, 1024)); len(l) != 1024 || l[1023] != "0xffc: nop" || e != api.OK {
		t.Errorf("List of all bytes: %d, %d", len(l), e)
	}
}

// TestFollows holds P13.3: what is shown is made as it was, and no two are shown alike.
func TestFollows(t *testing.T) {
	r := rand.New(rand.NewSource(1))
	seen := map[string]api.Inst{}
	for op := 1; op <= api.MaxOp; op++ {
		base, _ := code.Base(op)
		for range 300 {
			w := base ^ r.Uint32()&0x60ffffff
			if r.Intn(4) == 0 {
				w |= 0x3ff
			}
			i, e := code.Decode(w)
			if e != api.OK {
				if s := show.Word(w); !strings.HasPrefix(s, ".word 0x") {
					t.Fatalf("Word(%#x): %q", w, s)
				}
				continue
			}
			s, _ := show.Text(i)
			back, need, e := line.Plain(s)
			if back != i || need != (api.Need{}) || e != api.OK {
				t.Fatalf("Plain(%q): %v, %v, %d, not %v", s, back, need, e, i)
			}
			if other, ok := seen[s]; ok && other != i {
				t.Fatalf("%v and %v are both %q", other, i, s)
			}
			seen[s] = i
		}
	}
	if len(seen) < 3000 {
		t.Errorf("only %d lines", len(seen))
	}
}
