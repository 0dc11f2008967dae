package alu_test

import (
	"math"
	"math/rand"
	"slices"
	"testing"

	"cleat/alu"
	"cleat/api"
	"cleat/code"
	"cleat/flag"
)

const most = uint64(math.MaxUint64)

// sample is some right instruction of an operation.
func sample(r *rand.Rand, op int) api.Inst {
	base, _ := code.Base(op)
	for {
		if i, e := code.Decode(base | r.Uint32()&0x00ffffff); e == api.OK && i.Op == op {
			return i
		}
	}
}

func TestIs(t *testing.T) {
	r := rand.New(rand.NewSource(1))
	for op := 1; op <= api.MaxOp; op++ {
		want := op <= 21 || op == 39
		for range 20 {
			i := sample(r, op)
			if alu.Is(i) != want {
				t.Fatalf("Is(%v): %v", i, !want)
			}
			v, f, e := alu.Do(i, api.Args{D: 1, N: 2, M: 3, A: 4}, api.Flags{N: true})
			if want != (e == api.OK) || !want && (v != 0 || f != (api.Flags{}) || e != api.ErrArg) {
				t.Fatalf("Do(%v): %d, %v, %d", i, v, f, e)
			}
		}
	}
	for _, i := range []api.Inst{{}, {Op: 40}, {Op: 1, Imm: -1}, {Op: 1, N: 1}, {Op: 8}, {Op: 12, Shift: 3}, {Op: 12, Amount: 64}, {Op: 39, Cond: 14}, {Op: 20, A: 32}} {
		v, f, e := alu.Do(i, api.Args{}, api.Flags{C: true})
		if alu.Is(i) || v != 0 || f != (api.Flags{}) || e != api.ErrArg {
			t.Errorf("%v: %v, %d, %v, %d", i, alu.Is(i), v, f, e)
		}
	}
}

// flags are all that there may be.
func flags() []api.Flags {
	var l []api.Flags
	for m := range 16 {
		l = append(l, api.Flags{N: m&1 != 0, Z: m&2 != 0, C: m&4 != 0, V: m&8 != 0})
	}
	return l
}

func TestDo(t *testing.T) {
	for _, x := range []struct {
		i api.Inst
		a api.Args
		v uint64
	}{
		{api.Inst{Op: 1, Imm: 7, Amount: 16}, api.Args{D: 9}, 7 << 16},
		{api.Inst{Op: 1, Imm: 65535, Amount: 48}, api.Args{D: 9}, 65535 << 48},
		{api.Inst{Op: 2, Imm: 0}, api.Args{D: 9}, most},
		{api.Inst{Op: 2, Imm: 1, Amount: 32}, api.Args{D: 9}, most - 1<<32},
		{api.Inst{Op: 3, Imm: 1, Amount: 16}, api.Args{D: 65537}, 65537},
		{api.Inst{Op: 3, Imm: 0, Amount: 48}, api.Args{D: most}, most >> 16},
		{api.Inst{Op: 3, Imm: 0x1234}, api.Args{D: most}, most - 0xffff + 0x1234},
		{api.Inst{Op: 4, Imm: 1, Amount: 12}, api.Args{N: 5}, 4101},
		{api.Inst{Op: 4, Imm: 1}, api.Args{N: most}, 0},
		{api.Inst{Op: 5, Imm: 2}, api.Args{N: 1}, most},
		{api.Inst{Op: 5, Imm: 1, Amount: 12}, api.Args{N: 4097}, 1},
		{api.Inst{Op: 8, Mask: 6}, api.Args{N: 5}, 4},
		{api.Inst{Op: 9, Mask: 6}, api.Args{N: 5}, 7},
		{api.Inst{Op: 10, Mask: 6}, api.Args{N: 5}, 3},
		{api.Inst{Op: 12, Shift: 0, Amount: 4}, api.Args{N: 5, M: 1}, 21},
		{api.Inst{Op: 12, Shift: 2, Amount: 63}, api.Args{N: 5, M: 1 << 63}, 4},
		{api.Inst{Op: 13}, api.Args{N: 5, M: 7}, most - 1},
		{api.Inst{Op: 13, Shift: 1, Amount: 1}, api.Args{N: 5, M: 7}, 2},
		{api.Inst{Op: 16, Shift: 3, Amount: 1}, api.Args{N: 1<<63 | 1, M: 1}, 1 << 63},
		{api.Inst{Op: 17, Shift: 3, Amount: 4}, api.Args{N: 1, M: 8}, 1<<63 | 1},
		{api.Inst{Op: 18}, api.Args{N: 5, M: 6}, 3},
		{api.Inst{Op: 20}, api.Args{N: 5, M: 6, A: 7, D: 99}, 37},
		{api.Inst{Op: 20}, api.Args{N: 1 << 63, M: 3, A: 1 << 63}, 0},
		{api.Inst{Op: 21}, api.Args{N: 5, M: 6, A: 7}, most - 22},
		{api.Inst{Op: 21}, api.Args{N: 2, M: 3, A: 7}, 1},
	} {
		for _, f := range flags() {
			if v, g, e := alu.Do(x.i, x.a, f); v != x.v || g != f || e != api.OK {
				t.Errorf("Do(%v, %v, %v): %d, %v, %d", x.i, x.a, f, v, g, e)
			}
		}
	}
}

func TestDoFlags(t *testing.T) {
	values := []uint64{0, 1, 5, 4096, 1 << 63, 1<<63 - 1, most, most - 4095}
	for _, n := range values {
		for _, m := range values {
			for _, f := range flags() {
				a := api.Args{N: n, M: m}
				check := func(i api.Inst, v uint64, g api.Flags) {
					if w, h, e := alu.Do(i, a, f); w != v || h != g || e != api.OK {
						t.Fatalf("Do(%v, %v, %v): %d, %v, %d, not %d, %v", i, a, f, w, h, e, v, g)
					}
				}
				v, g := flag.Add(n, 5<<12, false)
				check(api.Inst{Op: 6, Imm: 5, Amount: 12}, v, g)
				v, g = flag.Sub(n, 5)
				check(api.Inst{Op: 7, Imm: 5}, v, g)
				check(api.Inst{Op: 11, Mask: 1 << 63}, n&(1<<63), flag.Of(n&(1<<63)))
				v, g = flag.Add(n, m<<1, false)
				check(api.Inst{Op: 14, Amount: 1}, v, g)
				v, g = flag.Sub(n, m>>1)
				check(api.Inst{Op: 15, Shift: 1, Amount: 1}, v, g)
				s, _ := flag.Shift(m, 3, 5)
				check(api.Inst{Op: 19, Shift: 3, Amount: 5}, n&s, flag.Of(n&s))
				for c := range 14 {
					want := m
					if h, _ := flag.Holds(c, f); h {
						want = n
					}
					check(api.Inst{Op: 39, Cond: c}, want, f)
				}
			}
		}
	}
}

func TestLoad(t *testing.T) {
	for _, x := range []struct {
		v uint64
		l []api.Inst
	}{
		{0, []api.Inst{{Op: 1}}},
		{7, []api.Inst{{Op: 1, Imm: 7}}},
		{65536, []api.Inst{{Op: 1, Imm: 1, Amount: 16}}},
		{1 << 48, []api.Inst{{Op: 1, Imm: 1, Amount: 48}}},
		{1<<32 + 2, []api.Inst{{Op: 1, Imm: 2}, {Op: 3, Imm: 1, Amount: 32}}},
		{0x0004000300020001, []api.Inst{{Op: 1, Imm: 1}, {Op: 3, Imm: 2, Amount: 16}, {Op: 3, Imm: 3, Amount: 32}, {Op: 3, Imm: 4, Amount: 48}}},
		{most, []api.Inst{{Op: 1, Imm: 65535}, {Op: 3, Imm: 65535, Amount: 16}, {Op: 3, Imm: 65535, Amount: 32}, {Op: 3, Imm: 65535, Amount: 48}}},
		{0xffff00000000, []api.Inst{{Op: 1, Imm: 65535, Amount: 32}}},
	} {
		if l := alu.Load(x.v); !slices.Equal(l, x.l) {
			t.Errorf("Load(%d): %v", x.v, l)
		}
	}
}

func TestAll(t *testing.T) {
	for _, x := range []struct {
		l []api.Inst
		a api.Args
		v uint64
		e api.Errno
	}{
		{nil, api.Args{D: 5, N: 6}, 5, api.OK},
		{[]api.Inst{{Op: 3, Imm: 1, Amount: 16}}, api.Args{D: 5}, 65541, api.OK},
		{[]api.Inst{{Op: 4, Imm: 1}, {Op: 4, Imm: 2}}, api.Args{D: 5, N: 10}, 12, api.OK},
		{[]api.Inst{{Op: 1, Imm: 1}, {Op: 3, Imm: 2, Amount: 16}, {Op: 3, Imm: 3, Amount: 32}}, api.Args{D: most}, 3<<32 + 2<<16 + 1, api.OK},
		{[]api.Inst{{Op: 7, Imm: 5}, {Op: 39, Cond: 0}}, api.Args{N: 5, M: 9}, 9, api.OK},
		{[]api.Inst{{Op: 39, Cond: 1}}, api.Args{N: 5, M: 9}, 5, api.OK},
		{[]api.Inst{{Op: 1, Imm: 1}, {Op: 22}}, api.Args{}, 0, api.ErrArg},
		{[]api.Inst{{Op: 38}, {Op: 1, Imm: 1}}, api.Args{D: 3}, 0, api.ErrArg},
		{[]api.Inst{{Op: 1, Imm: 65536}}, api.Args{D: 3}, 0, api.ErrArg},
	} {
		given := slices.Clone(x.l)
		if v, e := alu.All(x.l, x.a); v != x.v || e != x.e || !slices.Equal(x.l, given) {
			t.Errorf("All(%v, %v): %d, %d", given, x.a, v, e)
		}
	}
}

// TestFollows holds P6.3.
func TestFollows(t *testing.T) {
	r := rand.New(rand.NewSource(3))
	for range 2000 {
		v := r.Uint64()
		for k := range 4 {
			if r.Intn(3) == 0 {
				v &^= 0xffff << (16 * k)
			}
		}
		l := alu.Load(v)
		if w, e := alu.All(l, api.Args{D: r.Uint64()}); w != v || e != api.OK || len(l) > 4 {
			t.Fatalf("Load(%d) makes %d, %d", v, w, e)
		}
		a := api.Args{D: r.Uint64(), N: r.Uint64(), M: r.Uint64(), A: r.Uint64()}
		for _, pair := range [][2]int{{4, 5}, {12, 13}, {10, 10}, {18, 18}} {
			i := sample(r, pair[0])
			j := i
			j.Op = pair[1]
			sum, _, _ := alu.Do(i, a, api.Flags{})
			b := a
			b.N = sum
			if back, _, _ := alu.Do(j, b, api.Flags{}); back != a.N {
				t.Fatalf("%v and %v of %v: %d", i, j, a, back)
			}
		}
	}
	for op := 1; op <= api.MaxOp; op++ {
		if slices.Contains([]int{6, 7, 11, 14, 15, 19}, op) || !alu.Is(sample(r, op)) {
			continue
		}
		for _, f := range flags() {
			if _, g, _ := alu.Do(sample(r, op), api.Args{N: r.Uint64(), M: r.Uint64()}, f); f != g {
				t.Errorf("%d turns flags", op)
			}
		}
	}
}
