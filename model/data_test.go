package model_test

import (
	"math"
	"math/rand"
	"slices"
	"testing"

	"cleat/alu"
	"cleat/api"
	"cleat/code"
	"cleat/flag"
	"cleat/inst"
	"cleat/model"
)

const most = uint64(math.MaxUint64)

func plain(n uint64) api.Val { return api.Val{N: n} }

func spot(sec int, n uint64) api.Val { return api.Val{Kind: 1, Sec: sec, N: n} }

func page(sec int, n uint64) api.Val { return api.Val{Kind: 2, Sec: sec, N: n} }

func TestLess(t *testing.T) {
	for _, x := range [][2]uint64{{5, 5}, {5, 7}, {7, 5}, {0, most}, {1 << 63, 1}, {most, 1 << 63}} {
		v, f := flag.Sub(x[0], x[1])
		if got, g, e := model.Less(spot(3, x[0]), spot(3, x[1])); got != plain(v) || g != f || e != api.OK {
			t.Errorf("Less(%d, %d): %v, %v, %d", x[0], x[1], got, g, e)
		}
	}
	if got, _, e := model.Less(spot(-9, 5), spot(-9, 3)); got != plain(2) || e != api.OK {
		t.Errorf("Less in a unit below 0: %v, %d", got, e)
	}
	all := []api.Val{plain(5), spot(3, 5), spot(4, 5), page(3, 5), {Kind: 3, Sec: 3, N: 5}, {Kind: 9, Sec: 3}, {Kind: -1, Sec: 3}, {Kind: math.MinInt, Sec: 3}}
	for _, a := range all {
		for _, b := range all {
			if a == b && a.Kind == 1 {
				continue
			}
			if got, f, e := model.Less(a, b); got != (api.Val{}) || f != (api.Flags{}) || e != api.ErrStuck {
				t.Errorf("Less(%v, %v): %v, %v, %d", a, b, got, f, e)
			}
		}
	}
}

func TestDataPlaces(t *testing.T) {
	p, q, g := spot(3, 100), spot(3, 30), page(3, 100)
	other, gone := spot(4, 30), api.Val{Kind: 3, Sec: 3, N: 7}
	two := api.Val{Sec: 9, N: 2}
	f := api.Flags{N: true, V: true}
	_, less := flag.Sub(100, 30)
	none := api.Val{}
	for k, x := range []struct {
		i          api.Inst
		d, n, m, a api.Val
		want       api.Val
		f          api.Flags
		e          api.Errno
	}{
		{api.Inst{Op: 4, Imm: 5}, none, p, none, none, spot(3, 105), f, api.OK}, {api.Inst{Op: 4, Imm: 1, Amount: 12}, gone, p, gone, gone, spot(3, 4196), f, api.OK}, {api.Inst{Op: 5, Imm: 101}, none, p, none, none, spot(3, most), f, api.OK}, {api.Inst{Op: 5, Imm: 1, Amount: 12}, none, spot(3, 5000), none, none, spot(3, 904), f, api.OK},
		{api.Inst{Op: 6, Imm: 5}, none, p, none, none, none, f, api.ErrStuck}, {api.Inst{Op: 7, Imm: 5}, none, p, none, none, none, f, api.ErrStuck}, {api.Inst{Op: 4, Imm: 5}, none, g, none, none, none, f, api.ErrStuck}, {api.Inst{Op: 5, Imm: 5}, none, gone, none, none, none, f, api.ErrStuck}, {api.Inst{Op: 8, Mask: 6}, none, p, none, none, none, f, api.ErrStuck}, {api.Inst{Op: 9, Mask: 6}, none, p, none, none, none, f, api.ErrStuck},
		{api.Inst{Op: 12, Amount: 3}, none, p, two, none, spot(3, 116), f, api.OK}, {api.Inst{Op: 12, Shift: 2, Amount: 1}, none, p, plain(most), none, spot(3, 99), f, api.OK}, {api.Inst{Op: 13, Amount: 3}, none, p, two, none, spot(3, 84), f, api.OK}, {api.Inst{Op: 13, Shift: 1, Amount: 1}, none, p, two, none, spot(3, 99), f, api.OK}, {api.Inst{Op: 12}, none, two, p, none, spot(3, 102), f, api.OK}, {api.Inst{Op: 12}, none, plain(most), p, none, spot(3, 99), f, api.OK},
		{api.Inst{Op: 12, Amount: 1}, none, two, p, none, none, f, api.ErrStuck}, {api.Inst{Op: 12, Shift: 1}, none, two, p, none, none, f, api.ErrStuck}, {api.Inst{Op: 13}, none, two, p, none, none, f, api.ErrStuck}, {api.Inst{Op: 12}, none, p, q, none, none, f, api.ErrStuck}, {api.Inst{Op: 12}, none, p, g, none, none, f, api.ErrStuck}, {api.Inst{Op: 12}, none, g, two, none, none, f, api.ErrStuck}, {api.Inst{Op: 12}, none, two, g, none, none, f, api.ErrStuck}, {api.Inst{Op: 14}, none, p, two, none, none, f, api.ErrStuck}, {api.Inst{Op: 14}, none, two, p, none, none, f, api.ErrStuck}, {api.Inst{Op: 15}, none, p, two, none, none, f, api.ErrStuck}, {api.Inst{Op: 12}, none, gone, two, none, none, f, api.ErrStuck},
		{api.Inst{Op: 13}, none, p, q, none, plain(70), f, api.OK}, {api.Inst{Op: 15}, none, p, q, none, plain(70), less, api.OK}, {api.Inst{Op: 13}, none, q, p, none, plain(most - 69), f, api.OK}, {api.Inst{Op: 13, Amount: 1}, none, p, q, none, none, f, api.ErrStuck}, {api.Inst{Op: 15, Shift: 1}, none, p, q, none, none, f, api.ErrStuck}, {api.Inst{Op: 13}, none, p, other, none, none, f, api.ErrStuck}, {api.Inst{Op: 15}, none, p, other, none, none, f, api.ErrStuck}, {api.Inst{Op: 13}, none, g, g, none, none, f, api.ErrStuck}, {api.Inst{Op: 15}, none, p, g, none, none, f, api.ErrStuck},
		{api.Inst{Op: 17}, none, none, p, none, p, f, api.OK}, {api.Inst{Op: 17}, none, api.Val{Sec: 7}, g, none, g, f, api.OK}, {api.Inst{Op: 17}, none, none, gone, none, none, f, api.ErrStuck}, {api.Inst{Op: 17}, none, two, p, none, none, f, api.ErrStuck}, {api.Inst{Op: 17, Amount: 1}, none, none, p, none, none, f, api.ErrStuck}, {api.Inst{Op: 17, Shift: 1}, none, none, p, none, none, f, api.ErrStuck}, {api.Inst{Op: 17}, none, p, none, none, none, f, api.ErrStuck}, {api.Inst{Op: 18}, none, none, p, none, none, f, api.ErrStuck}, {api.Inst{Op: 16}, none, none, p, none, none, f, api.ErrStuck},
		{api.Inst{Op: 39, Cond: 4}, none, p, q, none, p, f, api.OK}, {api.Inst{Op: 39, Cond: 5}, none, p, q, none, q, f, api.OK}, {api.Inst{Op: 39, Cond: 4}, none, two, gone, none, two, f, api.OK}, {api.Inst{Op: 39, Cond: 5}, none, gone, g, none, g, f, api.OK}, {api.Inst{Op: 39, Cond: 5}, none, two, gone, none, none, f, api.ErrStuck}, {api.Inst{Op: 39, Cond: 4}, none, gone, two, none, none, f, api.ErrStuck}, {api.Inst{Op: 39, Cond: 4}, none, two, two, none, plain(2), f, api.OK},
		{api.Inst{Op: 1, Imm: 7}, gone, gone, gone, gone, plain(7), f, api.OK}, {api.Inst{Op: 2, Imm: 7}, p, p, p, p, plain(most - 7), f, api.OK}, {api.Inst{Op: 3, Imm: 7}, two, gone, p, g, plain(7), f, api.OK}, {api.Inst{Op: 3, Imm: 7}, p, none, none, none, none, f, api.ErrStuck}, {api.Inst{Op: 3, Imm: 7}, gone, none, none, none, none, f, api.ErrStuck},
		{api.Inst{Op: 20}, gone, two, two, two, plain(6), f, api.OK}, {api.Inst{Op: 20}, none, two, two, p, none, f, api.ErrStuck}, {api.Inst{Op: 21}, none, two, p, two, none, f, api.ErrStuck}, {api.Inst{Op: 21}, none, p, two, two, none, f, api.ErrStuck}, {api.Inst{Op: 12}, p, two, two, p, plain(4), f, api.OK},
		{api.Inst{Op: 22}, none, p, none, none, none, f, api.ErrArg}, {api.Inst{Op: 27}, none, p, none, none, none, f, api.ErrArg}, {api.Inst{Op: 4, Imm: -1}, none, p, none, none, none, f, api.ErrArg}, {api.Inst{}, none, none, none, none, none, f, api.ErrArg}, {api.Inst{Op: 37}, none, none, none, none, none, f, api.ErrArg}, {api.Inst{Op: 8}, none, none, none, none, none, f, api.ErrArg},
	} {
		if x.e != api.OK {
			x.f = api.Flags{}
		}
		if v, got, e := model.Data(x.i, x.d, x.n, x.m, x.a, f); v != x.want || got != x.f || e != x.e {
			t.Errorf("Data: %d: %v: %v, %v, %d, not %v, %v, %d", k, x.i, v, got, e, x.want, x.f, x.e)
		}
	}
}

// TestDataPlain holds that plain numbers make what layer 6 makes of them, whatever is not read, and what one value that is read, and not plain, turns.
func TestDataPlain(t *testing.T) {
	r := rand.New(rand.NewSource(1))
	reads := map[int]string{1: "", 2: "n", 3: "n", 4: "nm", 5: "nm", 6: "nma", 16: "nm"}
	for op := 1; op <= api.MaxOp; op++ {
		base, _ := code.Base(op)
		for range 60 {
			i, e := code.Decode(base | r.Uint32()&0x00ffffff)
			if e != api.OK || i.Op != op || !alu.Is(i) {
				continue
			}
			read := reads[inst.Shape(op)]
			if op == 3 {
				read = "d"
			}
			vals := map[byte]api.Val{}
			for _, c := range []byte("dnma") {
				vals[c] = api.Val{Kind: 3, Sec: r.Intn(3), N: r.Uint64()}
				if slices.Contains([]byte(read), c) {
					vals[c] = api.Val{Sec: r.Intn(3), N: r.Uint64()}
				}
			}
			f := api.Flags{N: r.Intn(2) == 0, Z: r.Intn(2) == 0, C: r.Intn(2) == 0, V: r.Intn(2) == 0}
			want, g, _ := alu.Do(i, api.Args{D: vals['d'].N, N: vals['n'].N, M: vals['m'].N, A: vals['a'].N}, f)
			if v, h, e := model.Data(i, vals['d'], vals['n'], vals['m'], vals['a'], f); v != plain(want) || g != h || e != api.OK {
				t.Fatalf("Data(%v): %v, %v, %d", i, v, h, e)
			}
			for _, c := range []byte(read) {
				was := vals[c]
				vals[c] = api.Val{Kind: 3}
				v, h, e := model.Data(i, vals['d'], vals['n'], vals['m'], vals['a'], f)
				if op != 39 && (v != (api.Val{}) || h != (api.Flags{}) || e != api.ErrStuck) {
					t.Fatalf("Data(%v) with %c lost: %v, %v, %d", i, c, v, h, e)
				}
				vals[c] = was
			}
		}
	}
}
