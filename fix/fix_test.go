package fix_test

import (
	"math"
	"math/rand"
	"testing"

	"cleat/api"
	"cleat/code"
	"cleat/fix"
	"cleat/mem"
	"cleat/step"
)

const most = uint64(math.MaxUint64)

func TestValue(t *testing.T) {
	base := uint64(1) << 40
	neg := func(n uint64) uint64 { return -n }
	for _, x := range []struct {
		kind     int
		from, to uint64
		want     uint64
		e        api.Errno
	}{
		{1, 5, most, most, api.OK}, {1, 5, 0, 0, api.OK},
		{2, base, base + 134217724, 134217724, api.OK}, {2, base, base + 134217728, 0, api.ErrRange}, {2, base, base - 134217728, neg(134217728), api.OK}, {2, base, base - 134217732, 0, api.ErrRange}, {2, 0, 2, 0, api.ErrAlign}, {2, 2, 6, 4, api.OK}, {2, 0, 1<<40 + 1, 0, api.ErrAlign}, {2, 0, 1 << 40, 0, api.ErrRange}, {2, most - 3, 4, 8, api.OK}, {2, 0, 1 << 63, 0, api.ErrRange}, {2, base, base - 1, 0, api.ErrAlign},
		{3, base, base + 1048572, 1048572, api.OK}, {3, base, base + 1048576, 0, api.ErrRange}, {3, base, base - 1048576, neg(1048576), api.OK}, {3, base, base - 1048580, 0, api.ErrRange}, {3, base, base + 1, 0, api.ErrAlign}, {3, base, base + 1048578, 0, api.ErrAlign},
		{4, base, base + 1048572, 1048572, api.OK}, {4, base, base + 1048576, 0, api.ErrRange}, {4, base, base - 1048576, neg(1048576), api.OK}, {4, base, base - 1048580, 0, api.ErrRange}, {4, base, base + 3, 0, api.ErrAlign},
		{5, base, base + 1048575, 1048575, api.OK}, {5, base, base + 1048576, 0, api.ErrRange}, {5, base, base - 1048576, neg(1048576), api.OK}, {5, base, base - 1048577, 0, api.ErrRange}, {5, 3, 8, 5, api.OK},
		{6, 8192, 4100, most, api.OK}, {6, 4095, 4096, 1, api.OK}, {6, 4096, 8191, 0, api.OK}, {6, base, base + 1048575*4096 + 4095, 1048575, api.OK}, {6, base, base + 1048576*4096, 0, api.ErrRange}, {6, base + 4095, base - 1048576*4096, neg(1048576), api.OK}, {6, base, base - 1048576*4096 - 1, 0, api.ErrRange}, {6, most, 1, 1, api.OK}, {6, 0, most, most, api.OK}, {6, 0, 1 << 63, 0, api.ErrRange},
		{7, 99, 8191, 4095, api.OK}, {7, 99, 4096, 0, api.OK}, {7, 0, most, 4095, api.OK}, {9, 99, 8191, 4095, api.OK}, {9, 0, most - 4094, 1, api.OK},
		{8, 99, 4096 + 4088, 4088, api.OK}, {8, 99, 4096 + 4, 0, api.ErrAlign}, {8, 99, 4097, 0, api.ErrAlign}, {8, 0, 4096, 0, api.OK}, {8, 7, most - 7, 4088, api.OK},
		{0, 0, 0, 0, api.ErrArg}, {-1, 0, 0, 0, api.ErrArg}, {10, 0, 0, 0, api.ErrArg}, {math.MaxInt, 0, 0, 0, api.ErrArg}, {math.MinInt, 0, 0, 0, api.ErrArg},
	} {
		if v, e := fix.Value(x.kind, x.from, x.to); v != x.want || e != x.e {
			t.Errorf("Value(%d, %d, %d): %d, %d", x.kind, x.from, x.to, v, e)
		}
	}
}

func encode(t *testing.T, i api.Inst) uint32 {
	t.Helper()
	w, e := code.Encode(i)
	if e != api.OK {
		t.Fatalf("Encode(%v): %d", i, e)
	}
	return w
}

func text(w uint32) string {
	return string([]byte{byte(w), byte(w >> 8), byte(w >> 16), byte(w >> 24)})
}

// fitting are instructions without an Imm, and the kinds that they fit.
func fitting() map[api.Inst]int {
	return map[api.Inst]int{{Op: 29}: 2, {Op: 30}: 2, {Op: 31, Cond: 5}: 3, {Op: 32, D: 9}: 3, {Op: 33, D: 31}: 3, {Op: 26, D: 4}: 4, {Op: 27, D: 5}: 5, {Op: 28, D: 6}: 6, {Op: 4, D: 31, N: 7}: 7, {Op: 22, D: 1, N: 31}: 8, {Op: 23, D: 2, N: 3}: 8, {Op: 24, D: 1, N: 2}: 9, {Op: 25, D: 3, N: 4}: 9}
}

func TestWordApply(t *testing.T) {
	const from, to = 0x12340, 0x23458
	for i, kind := range fitting() {
		v, e := fix.Value(kind, from, to)
		if e != api.OK {
			t.Fatalf("Value(%d): %d", kind, e)
		}
		j := i
		j.Imm = int(v)
		w := encode(t, i)
		want := encode(t, j)
		if got, e := fix.Word(kind, w, from, to); got != want || e != api.OK {
			t.Errorf("Word(%d, %v): %#x, %d", kind, i, got, e)
		}
		if s, e := fix.Apply(kind, text(w), from, to); s != text(want) || e != api.OK {
			t.Errorf("Apply(%d, %v): %x, %d", kind, i, s, e)
		}
		for other := -1; other <= 11; other++ {
			if other == kind {
				continue
			}
			e := api.ErrWord
			if other < 2 || other > 9 {
				e = api.ErrArg
			}
			if got, f := fix.Word(other, w, from, to); got != 0 || f != e {
				t.Errorf("Word(%d, %v): %#x, %d", other, i, got, f)
			}
			if s, f := fix.Apply(other, text(w), from, to); s != "" || f != e {
				t.Errorf("Apply(%d, %v): %x, %d", other, i, s, f)
			}
		}
		if kind != 7 && kind != 9 {
			if got, e := fix.Word(kind, w, from, to+1<<40+1); kind != 5 && kind != 6 && (got != 0 || e != api.ErrAlign) {
				t.Errorf("Word(%d, %v) too far, and odd: %#x, %d", kind, i, got, e)
			}
		}
		if got, e := fix.Word(kind, want, from, to+1<<60+1); j.Imm != 0 && (got != 0 || e != api.ErrWord) {
			t.Errorf("Word(%d, %v): %#x, %d", kind, j, got, e)
		}
	}
	if got, e := fix.Word(2, 0, 0, 2); got != 0 || e != api.ErrWord {
		t.Errorf("Word of no instruction: %#x, %d", got, e)
	}
	if got, e := fix.Word(2, encode(t, api.Inst{Op: 30}), 0, 1<<40); got != 0 || e != api.ErrRange {
		t.Errorf("Word too far: %#x, %d", got, e)
	}
	if got, e := fix.Word(7, encode(t, api.Inst{Op: 4, Amount: 12}), 0, 5); got != 0 || e != api.ErrWord {
		t.Errorf("Word with an Amount: %#x, %d", got, e)
	}
}

func TestApplyBytes(t *testing.T) {
	bl := text(encode(t, api.Inst{Op: 30}))
	for _, x := range []struct {
		kind int
		data string
		to   uint64
		want string
		e    api.Errno
	}{
		{1, "\x00\x00\x00\x00\x00\x00\x00\x00", 0x0807060504030201, "\x01\x02\x03\x04\x05\x06\x07\x08", api.OK}, {1, "abcdefgh", most, "\xff\xff\xff\xff\xff\xff\xff\xff", api.OK},
		{1, "", 0, "", api.ErrArg}, {1, bl, 0, "", api.ErrArg}, {1, "123456789", 0, "", api.ErrArg}, {2, "", 0, "", api.ErrArg}, {2, bl[:3], 0, "", api.ErrArg}, {2, bl + "x", 0, "", api.ErrArg}, {2, bl + bl, 0, "", api.ErrArg}, {0, bl, 0, "", api.ErrArg}, {10, bl, 0, "", api.ErrArg}, {-1, "", 0, "", api.ErrArg},
		{2, bl, 2, "", api.ErrAlign}, {2, bl, 1 << 50, "", api.ErrRange}, {2, "\x00\x00\x00\x00", 2, "", api.ErrWord}, {2, bl, 8, "\x02\x00\x00\x94", api.OK},
	} {
		if s, e := fix.Apply(x.kind, x.data, 0, x.to); s != x.want || e != x.e {
			t.Errorf("Apply(%d, %x, 0, %d): %x, %d", x.kind, x.data, x.to, s, e)
		}
	}
}

func TestGoal(t *testing.T) {
	const from = 0x12344
	for _, x := range []struct {
		kind int
		i    api.Inst
		want uint64
		e    api.Errno
	}{
		{2, api.Inst{Op: 29, Imm: -8}, from - 8, api.OK}, {2, api.Inst{Op: 30, Imm: 8}, from + 8, api.OK}, {3, api.Inst{Op: 31, Cond: 2, Imm: 8}, from + 8, api.OK}, {3, api.Inst{Op: 33, D: 2, Imm: 8}, from + 8, api.OK}, {4, api.Inst{Op: 26, D: 2, Imm: -4}, from - 4, api.OK}, {5, api.Inst{Op: 27, D: 2, Imm: 3}, from + 3, api.OK}, {6, api.Inst{Op: 28, D: 2, Imm: -2}, 0x10000, api.OK}, {6, api.Inst{Op: 28}, 0x12000, api.OK}, {6, api.Inst{Op: 28, Imm: -19}, most - 4095, api.OK}, {2, api.Inst{Op: 29, Imm: -0x12348}, most - 3, api.OK},
		{2, api.Inst{Op: 31, Imm: 8}, 0, api.ErrWord}, {3, api.Inst{Op: 29, Imm: 8}, 0, api.ErrWord}, {4, api.Inst{Op: 22, D: 1}, 0, api.ErrWord}, {5, api.Inst{Op: 28}, 0, api.ErrWord}, {6, api.Inst{Op: 27}, 0, api.ErrWord}, {2, api.Inst{Op: 38}, 0, api.ErrWord},
		{7, api.Inst{Op: 4}, 0, api.ErrArg}, {8, api.Inst{Op: 22}, 0, api.ErrArg}, {9, api.Inst{Op: 24}, 0, api.ErrArg}, {0, api.Inst{Op: 29}, 0, api.ErrArg}, {1, api.Inst{Op: 29}, 0, api.ErrArg}, {10, api.Inst{Op: 29}, 0, api.ErrArg},
	} {
		if v, e := fix.Goal(x.kind, text(encode(t, x.i)), from); v != x.want || e != x.e {
			t.Errorf("Goal(%d, %v): %d, %d", x.kind, x.i, v, e)
		}
	}
	for _, x := range []struct {
		kind int
		data string
		want uint64
		e    api.Errno
	}{{1, "\x01\x02\x03\x04\x05\x06\x07\x08", 0x0807060504030201, api.OK}, {1, "1234567", 0, api.ErrArg}, {2, "123", 0, api.ErrArg}, {2, "12345", 0, api.ErrArg}, {2, "", 0, api.ErrArg}, {3, "\x00\x00\x00\x00", 0, api.ErrWord}, {3, "\x0e\x00\x00\x54", 0, api.ErrWord}} {
		if v, e := fix.Goal(x.kind, x.data, from); v != x.want || e != x.e {
			t.Errorf("Goal(%d, %q): %d, %d", x.kind, x.data, v, e)
		}
	}
}

// TestFollows holds P26.4: what is applied leads where it is to, and turns Imm alone; adrp and add, run, make the place.
func TestFollows(t *testing.T) {
	r := rand.New(rand.NewSource(1))
	applied := 0
	for range 3000 {
		from, to := 1<<40+4*uint64(r.Intn(1<<20)), 1<<40+uint64(r.Intn(1<<22))
		for i, kind := range fitting() {
			s, e := fix.Apply(kind, text(encode(t, i)), from, to)
			if _, f := fix.Value(kind, from, to); f != e {
				t.Fatalf("Apply(%d, %d, %d): %d, but Value %d", kind, from, to, e, f)
			}
			if e != api.OK {
				continue
			}
			applied++
			w := uint32(s[0]) | uint32(s[1])<<8 | uint32(s[2])<<16 | uint32(s[3])<<24
			j, _ := code.Decode(w)
			j.Imm = 0
			if j != i {
				t.Fatalf("Apply(%d, %v) made %v", kind, i, j)
			}
			want := to
			if kind == 6 {
				want = to &^ 4095
			}
			if goal, f := fix.Goal(kind, s, from); kind < 7 && (goal != want || f != api.OK) {
				t.Fatalf("Goal(%d, %x, %d): %d, %d, not %d", kind, s, from, goal, f, want)
			}
		}
		adrp, _ := fix.Apply(6, text(encode(t, api.Inst{Op: 28, D: 3})), from, to)
		add, _ := fix.Apply(7, text(encode(t, api.Inst{Op: 4, D: 3, N: 3})), from+4, to)
		m, _ := mem.New(api.Region{At: from, Kind: 1, Data: adrp + add})
		c, trace := step.Run(api.Cpu{Pc: from}, m, 2)
		if c.X[3] != to || trace.E != api.OK {
			t.Fatalf("adrp and add of %d at %d: %d, %d", to, from, c.X[3], trace.E)
		}
	}
	if applied < 3000 {
		t.Errorf("only %d are applied", applied)
	}
}
