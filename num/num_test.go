package num_test

import (
	"fmt"
	"math"
	"math/rand"
	"strings"
	"testing"

	"cleat/api"
	"cleat/num"
)

const most = uint64(math.MaxUint64)

func TestValue(t *testing.T) {
	for _, x := range []struct {
		s string
		v uint64
		e api.Errno
	}{
		{"0", 0, api.OK}, {"018", 18, api.OK}, {"9", 9, api.OK}, {"0xFf", 255, api.OK}, {"0xabcdefABCDEF", 0xabcdefabcdef, api.OK}, {"0x0", 0, api.OK}, {"0x000", 0, api.OK},
		{"18446744073709551615", most, api.OK}, {"18446744073709551616", 0, api.ErrRange}, {"18446744073709551620", 0, api.ErrRange}, {"184467440737095516150", 0, api.ErrRange}, {"99999999999999999999", 0, api.ErrRange},
		{"0xffffffffffffffff", most, api.OK}, {"0x10000000000000000", 0, api.ErrRange}, {"0x1ffffffffffffffff", 0, api.ErrRange},
		{strings.Repeat("0", 100) + "7", 7, api.OK}, {"0x" + strings.Repeat("0", 100) + "f", 15, api.OK}, {strings.Repeat("9", 1000), 0, api.ErrRange},
		{"", 0, api.ErrForm}, {"0x", 0, api.ErrForm}, {"x", 0, api.ErrForm}, {"0X1", 0, api.ErrForm}, {"a", 0, api.ErrForm}, {"1a", 0, api.ErrForm}, {"0xg", 0, api.ErrForm}, {"0x1g", 0, api.ErrForm}, {"-1", 0, api.ErrForm}, {"+1", 0, api.ErrForm}, {" 1", 0, api.ErrForm}, {"1 ", 0, api.ErrForm}, {"1_0", 0, api.ErrForm}, {"0x0x1", 0, api.ErrForm}, {"00x1", 0, api.ErrForm}, {"1f", 0, api.ErrForm}, {"0b1", 0, api.ErrForm}, {"0o7", 0, api.ErrForm},
		{"\u0661", 0, api.ErrForm}, {"1\xff", 0, api.ErrForm}, {"/", 0, api.ErrForm}, {":", 0, api.ErrForm}, {"0x@", 0, api.ErrForm}, {"0x`", 0, api.ErrForm}, {"0xG", 0, api.ErrForm},
		{strings.Repeat("9", 100) + "z", 0, api.ErrForm}, {"0x" + strings.Repeat("f", 100) + "z", 0, api.ErrForm}, {"0x 1", 0, api.ErrForm},
	} {
		if v, e := num.Value(x.s); v != x.v || e != x.e {
			t.Errorf("Value(%q): %d, %d", x.s, v, e)
		}
	}
}

func TestText(t *testing.T) {
	for _, x := range []struct {
		v         uint64
		text, hex string
	}{
		{0, "0", "0x0"}, {9, "9", "0x9"}, {10, "10", "0xa"}, {255, "255", "0xff"}, {4096, "4096", "0x1000"}, {most, "18446744073709551615", "0xffffffffffffffff"}, {1 << 63, "9223372036854775808", "0x8000000000000000"}, {0xabcdef, "11259375", "0xabcdef"},
	} {
		if s, h := num.Text(x.v), num.Hex(x.v); s != x.text || h != x.hex {
			t.Errorf("%d: %q, %q", x.v, s, h)
		}
	}
}

func TestSigned(t *testing.T) {
	for _, x := range []struct {
		minus bool
		v     uint64
		n     int
		e     api.Errno
	}{
		{false, 0, 0, api.OK}, {true, 0, 0, api.OK}, {false, 5, 5, api.OK}, {true, 5, -5, api.OK}, {false, math.MaxInt64, math.MaxInt64, api.OK}, {true, math.MaxInt64, -math.MaxInt64, api.OK}, {true, 1 << 63, math.MinInt64, api.OK},
		{false, 1 << 63, 0, api.ErrRange}, {true, 1<<63 + 1, 0, api.ErrRange}, {false, most, 0, api.ErrRange}, {true, most, 0, api.ErrRange},
	} {
		if n, e := num.Signed(x.minus, x.v); n != x.n || e != x.e {
			t.Errorf("Signed(%v, %d): %d, %d", x.minus, x.v, n, e)
		}
	}
	for _, x := range []struct {
		n     int
		minus bool
		v     uint64
	}{{0, false, 0}, {5, false, 5}, {-5, true, 5}, {math.MaxInt64, false, math.MaxInt64}, {math.MinInt64, true, 1 << 63}, {-math.MaxInt64, true, math.MaxInt64}} {
		if m, v := num.Of(x.n); m != x.minus || v != x.v {
			t.Errorf("Of(%d): %v, %d", x.n, m, v)
		}
	}
}

func TestSum(t *testing.T) {
	for _, x := range []struct {
		at   uint64
		by   int
		want uint64
		e    api.Errno
	}{
		{0, 0, 0, api.OK}, {5, -5, 0, api.OK}, {5, -6, 0, api.ErrRange}, {0, -1, 0, api.ErrRange}, {most, 0, most, api.OK}, {most, 1, 0, api.ErrRange}, {most - 5, 5, most, api.OK}, {most - 5, 6, 0, api.ErrRange},
		{1 << 63, math.MaxInt64, most, api.OK}, {1<<63 + 1, math.MaxInt64, 0, api.ErrRange}, {1 << 63, math.MinInt64, 0, api.OK}, {1<<63 - 1, math.MinInt64, 0, api.ErrRange}, {most, math.MinInt64, 1<<63 - 1, api.OK}, {most, math.MaxInt64, 0, api.ErrRange}, {most, -1, most - 1, api.OK}, {0, math.MaxInt64, math.MaxInt64, api.OK},
	} {
		if v, e := num.Sum(x.at, x.by); v != x.want || e != x.e {
			t.Errorf("Sum(%d, %d): %d, %d", x.at, x.by, v, e)
		}
	}
}

// TestFollows holds P10.4.
func TestFollows(t *testing.T) {
	r := rand.New(rand.NewSource(1))
	for range 2000 {
		v := r.Uint64() >> r.Intn(64)
		noughts := strings.Repeat("0", r.Intn(30))
		for _, s := range []string{num.Text(v), num.Hex(v), noughts + num.Text(v), "0x" + noughts + num.Hex(v)[2:], "0x" + fmt.Sprintf("%X", v)} {
			if w, e := num.Value(s); w != v || e != api.OK {
				t.Fatalf("Value(%q): %d, %d", s, w, e)
			}
		}
		n := int(r.Uint64()) >> r.Intn(64)
		minus, far := num.Of(n)
		if m, e := num.Signed(minus, far); m != n || e != api.OK {
			t.Fatalf("Signed(Of(%d)): %d, %d", n, m, e)
		}
		at := r.Uint64() >> r.Intn(64)
		if sum, e := num.Sum(at, n); e == api.OK && n != math.MinInt64 {
			if back, e := num.Sum(sum, -n); back != at || e != api.OK {
				t.Fatalf("Sum(%d, %d), taken away: %d, %d", at, n, back, e)
			}
		}
	}
}
