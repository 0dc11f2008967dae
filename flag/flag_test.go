package flag_test

import (
	"math"
	"math/big"
	"testing"

	"cleat/api"
	"cleat/flag"
)

const (
	top  = uint64(1) << 63
	most = uint64(math.MaxUint64)
)

// edges are numbers at which flags turn.
func edges() []uint64 {
	return []uint64{0, 1, 2, 5, 7, 255, top - 2, top - 1, top, top + 1, top + 7, most - 1, most, 0x123456789abcdef0, 0xfedcba9876543210}
}

func one(b bool) int64 {
	if b {
		return 1
	}
	return 0
}

// wanted is what Add should tell, by numbers of any greatness.
func wanted(a, b uint64, carry bool) (uint64, api.Flags) {
	sum := new(big.Int).SetUint64(a)
	sum.Add(sum, new(big.Int).SetUint64(b))
	sum.Add(sum, big.NewInt(one(carry)))
	low := a + b + uint64(one(carry))
	signed := big.NewInt(int64(a))
	signed.Add(signed, big.NewInt(int64(b)))
	signed.Add(signed, big.NewInt(one(carry)))
	return low, api.Flags{N: int64(low) < 0, Z: low == 0, C: sum.BitLen() > 64, V: signed.Cmp(big.NewInt(int64(low))) != 0}
}

func TestAddSubOf(t *testing.T) {
	for _, a := range edges() {
		if f := flag.Of(a); f != (api.Flags{N: a >= top, Z: a == 0}) {
			t.Errorf("Of(%d): %v", a, f)
		}
		for _, b := range edges() {
			for _, carry := range []bool{false, true} {
				v, f := flag.Add(a, b, carry)
				if w, g := wanted(a, b, carry); v != w || f != g {
					t.Errorf("Add(%d, %d, %v): %d, %v", a, b, carry, v, f)
				}
			}
			v, f := flag.Sub(a, b)
			if w, g := wanted(a, ^b, true); v != w || f != g || v != a-b {
				t.Errorf("Sub(%d, %d): %d, %v", a, b, v, f)
			}
		}
	}
	if v, f := flag.Sub(5, 5); v != 0 || f != (api.Flags{Z: true, C: true}) {
		t.Errorf("Sub(5, 5): %d, %v", v, f)
	}
	if v, f := flag.Add(top-1, 1, false); v != top || f != (api.Flags{N: true, V: true}) {
		t.Errorf("Add(most, 1): %d, %v", v, f)
	}
}

func TestHolds(t *testing.T) {
	for m := range 16 {
		f := api.Flags{N: m&1 != 0, Z: m&2 != 0, C: m&4 != 0, V: m&8 != 0}
		even := []bool{f.Z, f.C, f.N, f.V, f.C && !f.Z, f.N == f.V, !f.Z && f.N == f.V}
		for i, want := range even {
			if h, e := flag.Holds(2*i, f); h != want || e != api.OK {
				t.Errorf("Holds(%d, %v): %v, %d", 2*i, f, h, e)
			}
			if h, e := flag.Holds(2*i+1, f); h == want || e != api.OK {
				t.Errorf("Holds(%d, %v): %v, %d", 2*i+1, f, h, e)
			}
		}
		for _, c := range []int{-1, -2, 14, 15, 16, math.MaxInt, math.MinInt} {
			if h, e := flag.Holds(c, f); h || e != api.ErrArg {
				t.Errorf("Holds(%d, %v): %v, %d", c, f, h, e)
			}
		}
	}
}

func TestShift(t *testing.T) {
	for _, v := range edges() {
		for by := range 64 {
			want := []uint64{v << by, v >> by, uint64(int64(v) >> by), v>>by | v<<(64-by)}
			for kind, w := range want {
				if s, e := flag.Shift(v, kind, by); s != w || e != api.OK {
					t.Errorf("Shift(%#x, %d, %d): %#x, %d", v, kind, by, s, e)
				}
			}
		}
	}
	for _, x := range [][2]int{{-1, 0}, {4, 0}, {0, -1}, {0, 64}, {3, 64}, {2, 64}, {1, -64}, {math.MaxInt, 1}, {math.MinInt, 1}, {1, math.MaxInt}, {1, math.MinInt}} {
		if s, e := flag.Shift(most, x[0], x[1]); s != 0 || e != api.ErrArg {
			t.Errorf("Shift(most, %d, %d): %d, %d", x[0], x[1], s, e)
		}
	}
	if s, _ := flag.Shift(top, 2, 1); s != top|top>>1 {
		t.Errorf("Shift(top, 2, 1): %d", s)
	}
}

// TestFollows holds P3.4: what conditions tell behind Sub, and that Add and Sub turn one another back.
func TestFollows(t *testing.T) {
	for _, a := range edges() {
		for _, b := range edges() {
			d, f := flag.Sub(a, b)
			want := map[int]bool{0: a == b, 2: a >= b, 8: a > b, 10: int64(a) >= int64(b), 12: int64(a) > int64(b)}
			for c, w := range want {
				if h, _ := flag.Holds(c, f); h != w {
					t.Errorf("%d less %d: %d holds: %v", a, b, c, h)
				}
			}
			if back, _ := flag.Add(d, b, false); back != a {
				t.Errorf("%d less %d, added: %d", a, b, back)
			}
			v, f := flag.Add(a, b, false)
			w, g := flag.Add(b, a, false)
			if v != w || f != g {
				t.Errorf("%d and %d: %d %v, %d %v", a, b, v, f, w, g)
			}
		}
	}
}
