package bits_test

import (
	"math"
	"slices"
	"testing"

	"cleat/api"
	"cleat/bits"
)

const all = math.MaxUint32

func TestField(t *testing.T) {
	for _, x := range []struct {
		w     uint32
		at, n int
		want  uint32
		e     api.Errno
	}{
		{196613, 0, 5, 5, api.OK}, {196613, 16, 5, 3, api.OK}, {196613, 5, 11, 0, api.OK},
		{all, 0, 32, all, api.OK}, {all, 31, 1, 1, api.OK}, {all, 30, 2, 3, api.OK}, {all, 0, 1, 1, api.OK}, {0x12345678, 8, 8, 0x56, api.OK},
		{all, -1, 1, 0, api.ErrArg}, {all, 0, 0, 0, api.ErrArg}, {all, 0, -1, 0, api.ErrArg}, {all, 0, 33, 0, api.ErrArg},
		{all, 32, 1, 0, api.ErrArg}, {all, 31, 2, 0, api.ErrArg}, {all, 32, 0, 0, api.ErrArg}, {all, -1, 33, 0, api.ErrArg},
		{all, 1, math.MaxInt, 0, api.ErrArg}, {all, math.MaxInt, 1, 0, api.ErrArg}, {all, math.MaxInt, math.MaxInt, 0, api.ErrArg},
		{all, math.MinInt, 1, 0, api.ErrArg}, {all, 1, math.MinInt, 0, api.ErrArg}, {all, math.MinInt, math.MinInt, 0, api.ErrArg},
	} {
		if v, e := bits.Field(x.w, x.at, x.n); v != x.want || e != x.e {
			t.Errorf("Field(%d, %d, %d): %d, %d", x.w, x.at, x.n, v, e)
		}
	}
}

func TestWord(t *testing.T) {
	type fields = []api.Field
	for _, x := range []struct {
		l    fields
		want uint32
		e    api.Errno
	}{
		{nil, 0, api.OK}, {fields{}, 0, api.OK},
		{fields{{At: 0, N: 5, V: 5}, {At: 16, N: 5, V: 3}}, 196613, api.OK},
		{fields{{At: 16, N: 5, V: 3}, {At: 0, N: 5, V: 5}}, 196613, api.OK},
		{fields{{At: 0, N: 32, V: all}}, all, api.OK},
		{fields{{At: 31, N: 1, V: 1}, {At: 0, N: 31, V: 0}}, 1 << 31, api.OK},
		{fields{{At: 0, N: 4, V: 15}, {At: 4, N: 4, V: 0}, {At: 8, N: 1, V: 1}}, 271, api.OK},
		{fields{{At: 0, N: 5, V: 0}, {At: 4, N: 1, V: 0}}, 0, api.ErrArg},
		{fields{{At: 4, N: 1, V: 0}, {At: 9, N: 3, V: 0}, {At: 0, N: 5, V: 0}}, 0, api.ErrArg},
		{fields{{At: 7, N: 1, V: 1}, {At: 7, N: 1, V: 1}}, 0, api.ErrArg},
		{fields{{At: 0, N: 0, V: 0}}, 0, api.ErrArg},
		{fields{{At: -1, N: 2, V: 0}}, 0, api.ErrArg},
		{fields{{At: 31, N: 2, V: 0}}, 0, api.ErrArg},
		{fields{{At: 3, N: math.MaxInt, V: 0}}, 0, api.ErrArg},
		{fields{{At: 0, N: 5, V: 32}}, 0, api.ErrRange},
		{fields{{At: 31, N: 1, V: 2}}, 0, api.ErrRange},
		{fields{{At: 0, N: 5, V: 31}, {At: 5, N: 2, V: 4}}, 0, api.ErrRange},
		{fields{{At: 0, N: 5, V: 32}, {At: 9, N: 0, V: 0}}, 0, api.ErrArg},
		{fields{{At: 0, N: 5, V: 32}, {At: 4, N: 2, V: 0}}, 0, api.ErrArg},
	} {
		given := slices.Clone(x.l)
		if v, e := bits.Word(x.l...); v != x.want || e != x.e {
			t.Errorf("Word(%v): %d, %d", x.l, v, e)
		}
		if !slices.Equal(given, x.l) {
			t.Errorf("Word(%v) changed its fields", given)
		}
	}
}

func TestSignedPack(t *testing.T) {
	for _, x := range []struct {
		v uint32
		n int
		s int
	}{
		{7, 3, -1}, {4, 3, -4}, {3, 3, 3}, {0, 3, 0}, {1, 1, -1}, {0, 1, 0}, {all, 32, -1}, {1 << 31, 32, -1 << 31}, {1<<31 - 1, 32, 1<<31 - 1}, {1 << 18, 19, -1 << 18}, {1<<18 - 1, 19, 1<<18 - 1},
	} {
		if s, e := bits.Signed(x.v, x.n); s != x.s || e != api.OK {
			t.Errorf("Signed(%d, %d): %d, %d", x.v, x.n, s, e)
		}
		if v, e := bits.Pack(x.s, x.n); v != x.v || e != api.OK {
			t.Errorf("Pack(%d, %d): %d, %d", x.s, x.n, v, e)
		}
	}
}

func TestSignedPackWrong(t *testing.T) {
	for _, n := range []int{0, -1, 33, math.MaxInt, math.MinInt} {
		if v, e := bits.Signed(0, n); v != 0 || e != api.ErrArg {
			t.Errorf("Signed(0, %d): %d, %d", n, v, e)
		}
		if v, e := bits.Signed(all, n); v != 0 || e != api.ErrArg {
			t.Errorf("Signed(all, %d): %d, %d", n, v, e)
		}
		if v, e := bits.Pack(math.MinInt, n); v != 0 || e != api.ErrArg {
			t.Errorf("Pack(least, %d): %d, %d", n, v, e)
		}
	}
	for n := 1; n <= 32; n++ {
		half := 1 << (n - 1)
		for _, v := range []int{half, -half - 1, math.MaxInt, math.MinInt, 1 << 32, -1 << 32} {
			if w, e := bits.Pack(v, n); w != 0 || e != api.ErrRange {
				t.Errorf("Pack(%d, %d): %d, %d", v, n, w, e)
			}
		}
		if n < 32 {
			for _, v := range []uint32{1 << n, all} {
				if s, e := bits.Signed(v, n); s != 0 || e != api.ErrRange {
					t.Errorf("Signed(%d, %d): %d, %d", v, n, s, e)
				}
			}
		}
	}
}

func TestLow(t *testing.T) {
	for _, x := range []struct {
		v    uint64
		n    int
		want uint64
	}{
		{255, 4, 15}, {255, 8, 255}, {255, 1, 1}, {254, 1, 0}, {255, 0, 0}, {255, -1, 0}, {255, math.MinInt, 0},
		{math.MaxUint64, 63, math.MaxInt64}, {math.MaxUint64, 64, math.MaxUint64}, {math.MaxUint64, 65, math.MaxUint64}, {1 << 63, math.MaxInt, 1 << 63},
	} {
		if v := bits.Low(x.v, x.n); v != x.want {
			t.Errorf("Low(%d, %d): %d", x.v, x.n, v)
		}
	}
}

func TestRotate(t *testing.T) {
	for _, x := range []struct {
		v        uint64
		by, size int
		want     uint64
		e        api.Errno
	}{
		{1, 1, 8, 128, api.OK}, {1, 0, 8, 1, api.OK}, {6, 1, 4, 3, api.OK}, {1, 1, 2, 2, api.OK}, {2, 1, 2, 1, api.OK}, {1, 1, 64, 1 << 63, api.OK}, {3, 63, 64, 6, api.OK}, {0x1234, 4, 16, 0x4123, api.OK}, {0x80000001, 31, 32, 3, api.OK},
		{1, 8, 8, 0, api.ErrArg}, {1, -1, 8, 0, api.ErrArg}, {1, 64, 64, 0, api.ErrArg}, {1, 0, 1, 0, api.ErrArg}, {1, 0, 3, 0, api.ErrArg}, {1, 0, 0, 0, api.ErrArg}, {1, 0, -2, 0, api.ErrArg}, {1, 0, 128, 0, api.ErrArg}, {1, 0, math.MaxInt, 0, api.ErrArg}, {1, math.MinInt, 64, 0, api.ErrArg},
		{256, 0, 8, 0, api.ErrRange}, {4, 1, 2, 0, api.ErrRange}, {1 << 32, 5, 32, 0, api.ErrRange}, {256, 8, 8, 0, api.ErrArg},
	} {
		if v, e := bits.Rotate(x.v, x.by, x.size); v != x.want || e != x.e {
			t.Errorf("Rotate(%d, %d, %d): %d, %d", x.v, x.by, x.size, v, e)
		}
	}
}

// TestFollows holds P1.4: fields read as put, Signed and Pack turn one another back, rotations join.
func TestFollows(t *testing.T) {
	seed := uint64(1)
	next := func() uint64 {
		seed ^= seed << 13
		seed ^= seed >> 7
		seed ^= seed << 17
		return seed
	}
	for range 500 {
		a, b := int(next()%16)+1, int(next()%15)+1
		x, y := uint32(bits.Low(next(), a)), uint32(bits.Low(next(), b))
		w, e := bits.Word(api.Field{At: 0, N: a, V: x}, api.Field{At: 16, N: b, V: y})
		p, _ := bits.Field(w, 0, a)
		q, _ := bits.Field(w, 16, b)
		if e != api.OK || p != x || q != y {
			t.Fatalf("fields of %d and %d bits: %d, %d for %d, %d", a, b, p, q, x, y)
		}
		n := int(next()%32) + 1
		v := uint32(bits.Low(next(), n))
		s, _ := bits.Signed(v, n)
		if back, e := bits.Pack(s, n); back != v || e != api.OK {
			t.Fatalf("Pack(Signed(%d, %d)): %d, %d", v, n, back, e)
		}
		size := 2 << (next() % 6)
		r := bits.Low(next(), size)
		one, two := int(next()%uint64(size)), int(next()%uint64(size))
		once, _ := bits.Rotate(r, one, size)
		if back, _ := bits.Rotate(once, (size-one)%size, size); back != r {
			t.Fatalf("Rotate(%d, %d, %d) turned back: %d", r, one, size, back)
		}
		twice, _ := bits.Rotate(once, two, size)
		if both, _ := bits.Rotate(r, (one+two)%size, size); both != twice {
			t.Fatalf("Rotate(%d) by %d and %d of %d: %d, %d", r, one, two, size, twice, both)
		}
	}
}
