package code_test

import (
	"math"
	"math/rand"
	"testing"

	"cleat/api"
	"cleat/code"
	"cleat/inst"
	"cleat/mask"
)

// free has, of each operation, the bits of its fields, as the document's tables tell them.
func free(op int) uint32 {
	span := func(l ...int) uint32 {
		var v uint32
		for k := 0; k < len(l); k += 2 {
			v |= uint32((uint64(1)<<l[k+1] - 1) << l[k])
		}
		return v
	}
	switch inst.Shape(op) {
	case 1:
		return span(0, 5, 5, 16, 21, 2)
	case 2:
		return span(0, 5, 5, 5, 10, 12, 22, 1)
	case 3:
		return span(0, 5, 5, 5, 10, 6, 16, 6, 22, 1)
	case 4, 5:
		return span(0, 5, 5, 5, 10, 6, 16, 5, 22, 2)
	case 6:
		return span(0, 5, 5, 5, 10, 5, 16, 5)
	case 7, 8:
		return span(0, 5, 5, 5, 10, 12)
	case 9:
		return span(0, 5, 5, 19)
	case 10:
		return span(0, 5, 5, 19, 29, 2)
	case 11:
		return span(0, 26)
	case 12:
		return span(0, 4, 5, 19)
	case 13:
		return span(5, 5)
	case 14:
		return span(5, 16)
	case 16:
		return span(0, 5, 5, 5, 12, 4, 16, 5)
	}
	return 0
}

func baseList() []uint32 {
	return []uint32{3531603968, 2457862144, 4068474880, 2432696320, 3506438144, 2969567232, 4043309056, 2449473536, 2986344448, 3523215360, 4060086272, 2332033024, 3405774848, 2868903936, 3942645760, 2315255808, 2852126720, 3388997632, 3925868544, 2600468480, 2600501248, 4181721088, 4177526784, 960495616, 956301312, 1476395008, 268435456, 2415919104, 335544320, 2483027968, 1409286144, 3019898880, 3036676096, 3592355840, 3594452992, 3596550144, 3556769793, 3573751839, 2592079872}
}

func TestBaseOpcode(t *testing.T) {
	r := rand.New(rand.NewSource(1))
	for k, want := range baseList() {
		op := k + 1
		if b, e := code.Base(op); b != want || e != api.OK {
			t.Errorf("Base(%d): %d, %d", op, b, e)
		}
		for range 50 {
			if got := code.Opcode(want | r.Uint32()&free(op)); got != op {
				t.Errorf("Opcode of %d with fields: %d", op, got)
			}
		}
		if got := code.Opcode(want | free(op)); got != op {
			t.Errorf("Opcode of %d, all fields ones: %d", op, got)
		}
		for bit := range 32 {
			if free(op)>>bit&1 == 1 {
				continue
			}
			if got := code.Opcode(want ^ 1<<bit); got == op {
				t.Errorf("Opcode of %d, bit %d turned: the same", op, bit)
			}
			if i, _ := code.Decode(want ^ 1<<bit); i.Op == op {
				t.Errorf("Decode of %d, bit %d turned: the same", op, bit)
			}
		}
	}
	for _, op := range []int{0, -1, 40, math.MaxInt, math.MinInt} {
		if b, e := code.Base(op); b != 0 || e != api.ErrArg {
			t.Errorf("Base(%d): %d, %d", op, b, e)
		}
	}
	for _, w := range []uint32{0, math.MaxUint32, 1, 3573751838, 3556769792, 3556769794} {
		i, e := code.Decode(w)
		if op := code.Opcode(w); op != 0 || i != (api.Inst{}) || e != api.ErrWord {
			t.Errorf("%d: %d, %v, %d", w, op, i, e)
		}
	}
}

// put is a word made of parts: a value, and the bit from which it stands.
func put(base uint32, l ...uint32) uint32 {
	for k := 0; k < len(l); k += 2 {
		base |= l[k] << l[k+1]
	}
	return base
}

func TestWords(t *testing.T) {
	b := baseList()
	for _, x := range []struct {
		i api.Inst
		w uint32
	}{
		{api.Inst{Op: 38}, 3573751839},
		{api.Inst{Op: 4, D: 1, N: 2, Imm: 3}, 2432699457},
		{api.Inst{Op: 36, N: 30}, 3596551104},
		{api.Inst{Op: 1, D: 31, Imm: 65535, Amount: 48}, put(b[0], 31, 0, 65535, 5, 3, 21)},
		{api.Inst{Op: 3, D: 1, Imm: 2, Amount: 16}, put(b[2], 1, 0, 2, 5, 1, 21)},
		{api.Inst{Op: 7, D: 3, N: 4, Imm: 4095, Amount: 12}, put(b[6], 3, 0, 4, 5, 4095, 10, 1, 22)},
		{api.Inst{Op: 8, D: 3, N: 4, Mask: 6}, put(b[7], 3, 0, 4, 5, 1, 10, 63, 16, 1, 22)},
		{api.Inst{Op: 9, D: 3, N: 4, Mask: 0x5555555555555555}, put(b[8], 3, 0, 4, 5, 60, 10)},
		{api.Inst{Op: 12, D: 3, N: 4, M: 5, Shift: 2, Amount: 63}, put(b[11], 3, 0, 4, 5, 63, 10, 5, 16, 2, 22)},
		{api.Inst{Op: 17, D: 3, N: 4, M: 5, Shift: 3, Amount: 1}, put(b[16], 3, 0, 4, 5, 1, 10, 5, 16, 3, 22)},
		{api.Inst{Op: 21, D: 3, N: 4, M: 5, A: 6}, put(b[20], 3, 0, 4, 5, 6, 10, 5, 16)},
		{api.Inst{Op: 22, D: 3, N: 4, Imm: 32760}, put(b[21], 3, 0, 4, 5, 4095, 10)},
		{api.Inst{Op: 23, D: 3, N: 4, Imm: 8}, put(b[22], 3, 0, 4, 5, 1, 10)},
		{api.Inst{Op: 25, D: 3, N: 4, Imm: 4095}, put(b[24], 3, 0, 4, 5, 4095, 10)},
		{api.Inst{Op: 26, D: 3, Imm: -4}, put(b[25], 3, 0, 1<<19-1, 5)},
		{api.Inst{Op: 33, D: 3, Imm: 1048572}, put(b[32], 3, 0, 1<<18-1, 5)},
		{api.Inst{Op: 32, D: 3, Imm: -1048576}, put(b[31], 3, 0, 1<<18, 5)},
		{api.Inst{Op: 27, D: 3, Imm: -1}, put(b[26], 3, 0, 1<<19-1, 5, 3, 29)},
		{api.Inst{Op: 28, D: 3, Imm: 6}, put(b[27], 3, 0, 1, 5, 2, 29)},
		{api.Inst{Op: 28, D: 3, Imm: -1048576}, put(b[27], 3, 0, 1<<18, 5)},
		{api.Inst{Op: 29, Imm: -134217728}, put(b[28], 1<<25, 0)},
		{api.Inst{Op: 30, Imm: 134217724}, put(b[29], 1<<25-1, 0)},
		{api.Inst{Op: 31, Cond: 13, Imm: -8}, put(b[30], 13, 0, 1<<19-2, 5)},
		{api.Inst{Op: 34, N: 31}, put(b[33], 31, 5)},
		{api.Inst{Op: 37, Imm: 65535}, put(b[36], 65535, 5)},
		{api.Inst{Op: 39, D: 3, N: 4, M: 5, Cond: 13}, put(b[38], 3, 0, 4, 5, 13, 12, 5, 16)},
	} {
		if w, e := code.Encode(x.i); w != x.w || e != api.OK {
			t.Errorf("Encode(%v): %#x, %d, not %#x", x.i, w, e, x.w)
		}
		if i, e := code.Decode(x.w); i != x.i || e != api.OK {
			t.Errorf("Decode(%#x): %v, %d, not %v", x.w, i, e, x.i)
		}
	}
}

func TestWrong(t *testing.T) {
	b := baseList()
	for _, w := range []uint32{
		put(b[11], 3, 22),        // a shift of the kind 3 of a sum
		put(b[14], 3, 22),        // likewise
		put(b[7], 63, 10, 1, 22), // a mask of all ones
		put(b[7], 31, 10),        // likewise, of 32 bits
		put(b[7], 60, 10, 2, 16), // rotated by more than its size
		put(b[7], 61, 10),        // of no size
		put(b[30], 14, 0),        // a condition that is none
		put(b[30], 15, 0),        // likewise
		put(b[38], 14, 12),       // likewise
		put(b[38], 15, 12),       // likewise
	} {
		i, e := code.Decode(w)
		if i != (api.Inst{}) || e != api.ErrWord || code.Opcode(w) == 0 {
			t.Errorf("Decode(%#x): %v, %d; %d", w, i, e, code.Opcode(w))
		}
	}
	for _, i := range []api.Inst{{}, {Op: 40}, {Op: -1}, {Op: 1, Imm: 65536}, {Op: 1, Imm: -1}, {Op: 1, Amount: 8}, {Op: 4, Amount: 1}, {Op: 8}, {Op: 12, Shift: 3}, {Op: 26, Imm: 2}, {Op: 27, Imm: 1048576}, {Op: 29, Imm: 134217728}, {Op: 31, Cond: 14}, {Op: 34, D: 1}, {Op: 38, Imm: 1}, {Op: 39, Cond: 14}, {Op: 20, A: 32}, {Op: 12, M: math.MinInt}} {
		if w, e := code.Encode(i); w != 0 || e != api.ErrArg {
			t.Errorf("Encode(%v): %d, %d", i, w, e)
		}
	}
}

// TestFollows holds P5.3 for words of all operations, with all kinds of fields.
func TestFollows(t *testing.T) {
	r := rand.New(rand.NewSource(2))
	right := 0
	for op := 1; op <= api.MaxOp; op++ {
		base, _ := code.Base(op)
		for range 400 {
			w := base | r.Uint32()&free(op)
			i, e := code.Decode(w)
			if e != api.OK {
				continue
			}
			right++
			if back, e := code.Encode(i); back != w || e != api.OK || i.Op != op || !inst.Is(i) {
				t.Fatalf("Encode(Decode(%#x)): %#x, %d of %v", w, back, e, i)
			}
		}
	}
	if right < 10000 {
		t.Errorf("only %d right words", right)
	}
	for v := range 1 << 13 {
		m, e := mask.Decode(v>>12, v>>6&63, v&63)
		if e != api.OK {
			continue
		}
		i := api.Inst{Op: api.OpEori, D: 1, N: 2, Mask: m}
		w, _ := code.Encode(i)
		if back, e := code.Decode(w); back != i || e != api.OK {
			t.Fatalf("Decode(Encode(%v)): %v, %d", i, back, e)
		}
	}
	for range 20000 {
		w := r.Uint32()
		if i, e := code.Decode(w); e == api.OK {
			if back, _ := code.Encode(i); back != w {
				t.Fatalf("Encode(Decode(%#x)): %#x", w, back)
			}
		} else if i != (api.Inst{}) || e != api.ErrWord {
			t.Fatalf("Decode(%#x): %v, %d", w, i, e)
		}
	}
}
