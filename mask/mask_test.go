package mask_test

import (
	"math"
	"math/bits"
	"testing"

	"cleat/api"
	"cleat/mask"
)

func TestDecode(t *testing.T) {
	for _, x := range []struct {
		n, r, s int
		want    uint64
		e       api.Errno
	}{
		{1, 0, 7, 255, api.OK}, {0, 0, 60, 6148914691236517205, api.OK}, {0, 1, 60, 0xaaaaaaaaaaaaaaaa, api.OK},
		{1, 63, 1, 6, api.OK}, {1, 0, 0, 1, api.OK}, {1, 1, 0, 1 << 63, api.OK}, {1, 0, 62, math.MaxInt64, api.OK}, {1, 63, 62, math.MaxUint64 - 1, api.OK},
		{0, 0, 0, 0x0000000100000001, api.OK}, {0, 31, 30, 0xfffffffefffffffe, api.OK}, {0, 15, 46, 0xfffefffefffefffe, api.OK}, {0, 0, 32, 0x0001000100010001, api.OK},
		{0, 4, 51, 0xf0f0f0f0f0f0f0f0, api.OK}, {0, 0, 54, 0x7f7f7f7f7f7f7f7f, api.OK}, {0, 3, 58, 0xeeeeeeeeeeeeeeee, api.OK}, {0, 0, 56, 0x1111111111111111, api.OK},
		{1, 0, 63, 0, api.ErrForm}, {0, 0, 31, 0, api.ErrForm}, {0, 0, 47, 0, api.ErrForm}, {0, 0, 55, 0, api.ErrForm}, {0, 0, 59, 0, api.ErrForm},
		{0, 0, 61, 0, api.ErrForm}, {0, 0, 62, 0, api.ErrForm}, {0, 0, 63, 0, api.ErrForm},
		{0, 32, 0, 0, api.ErrForm}, {0, 16, 32, 0, api.ErrForm}, {0, 8, 48, 0, api.ErrForm}, {0, 4, 56, 0, api.ErrForm}, {0, 2, 60, 0, api.ErrForm}, {0, 63, 60, 0, api.ErrForm},
		{2, 0, 0, 0, api.ErrArg}, {-1, 0, 0, 0, api.ErrArg}, {1, 64, 0, 0, api.ErrArg}, {1, -1, 0, 0, api.ErrArg}, {1, 0, 64, 0, api.ErrArg}, {1, 0, -1, 0, api.ErrArg},
		{math.MaxInt, 0, 0, 0, api.ErrArg}, {1, math.MinInt, 0, 0, api.ErrArg}, {1, 0, math.MaxInt, 0, api.ErrArg}, {0, 64, 63, 0, api.ErrArg},
	} {
		if v, e := mask.Decode(x.n, x.r, x.s); v != x.want || e != x.e {
			t.Errorf("Decode(%d, %d, %d): %#x, %d", x.n, x.r, x.s, v, e)
		}
	}
}

func TestEncode(t *testing.T) {
	for _, x := range []struct {
		v       uint64
		n, r, s int
		e       api.Errno
	}{
		{6, 1, 63, 1, api.OK}, {255, 1, 0, 7, api.OK}, {1, 1, 0, 0, api.OK}, {1 << 63, 1, 1, 0, api.OK}, {6148914691236517205, 0, 0, 60, api.OK}, {0xaaaaaaaaaaaaaaaa, 0, 1, 60, api.OK}, {0x8000000180000001, 0, 1, 1, api.OK},
		{0, 0, 0, 0, api.ErrForm}, {math.MaxUint64, 0, 0, 0, api.ErrForm}, {5, 0, 0, 0, api.ErrForm}, {0xff00ff, 0, 0, 0, api.ErrForm}, {0x0505050505050505, 0, 0, 0, api.ErrForm}, {0x00000001000000ff, 0, 0, 0, api.ErrForm}, {1<<63 | 2, 0, 0, 0, api.ErrForm}, {1<<63 | 5, 0, 0, 0, api.ErrForm},
	} {
		n, r, s, e := mask.Encode(x.v)
		if n != x.n || r != x.r || s != x.s || e != x.e || mask.Is(x.v) != (e == api.OK) {
			t.Errorf("Encode(%#x): %d %d %d, %d; %v", x.v, n, r, s, e, mask.Is(x.v))
		}
	}
}

func TestSizeOnes(t *testing.T) {
	for _, x := range []struct {
		v          uint64
		size, ones int
	}{
		{0, 2, 0}, {math.MaxUint64, 2, 64}, {0x5555555555555555, 2, 32}, {0x3333333333333333, 4, 32}, {0x0505050505050505, 8, 16}, {0x00ff00ff00ff00ff, 16, 32}, {0x0000000700000007, 32, 6}, {7, 64, 3}, {0x5555555555555554, 64, 31}, {0x1111111011111110, 32, 14}, {1 << 63, 64, 1},
	} {
		if size, ones := mask.Size(x.v), mask.Ones(x.v); size != x.size || ones != x.ones {
			t.Errorf("%#x: size %d, ones %d", x.v, size, ones)
		}
	}
}

// TestFollows holds P2.4: all that is told as a mask, told in one way alone, and told back; turned round and rotated it stays a mask.
func TestFollows(t *testing.T) {
	seen := map[uint64]bool{}
	for n := range 2 {
		for r := range 64 {
			for s := range 64 {
				v, e := mask.Decode(n, r, s)
				if e != api.OK {
					if v != 0 || e != api.ErrForm {
						t.Fatalf("Decode(%d, %d, %d): %d, %d", n, r, s, v, e)
					}
					continue
				}
				if seen[v] {
					t.Fatalf("%#x is told twice", v)
				}
				seen[v] = true
				if a, b, c, e := mask.Encode(v); a != n || b != r || c != s || e != api.OK {
					t.Fatalf("Encode(%#x): %d %d %d, %d, told by %d %d %d", v, a, b, c, e, n, r, s)
				}
				if !mask.Is(^v) || !mask.Is(bits.RotateLeft64(v, r+1)) {
					t.Fatalf("%#x turned is no mask", v)
				}
			}
		}
	}
	if len(seen) != 5334 {
		t.Errorf("%d masks", len(seen))
	}
	for v := range uint64(1 << 12) {
		if mask.Is(v) != seen[v] || mask.Is(^v) != seen[^v] {
			t.Errorf("Is(%#x): %v", v, mask.Is(v))
		}
	}
}
