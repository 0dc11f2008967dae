package mem_test

import (
	"math"
	"math/rand"
	"strings"
	"testing"

	"cleat/api"
	"cleat/mem"
)

const nine = "\x01\x02\x03\x04\x05\x06\x07\x08\x09"

func region(at uint64, kind int, data string) api.Region {
	return api.Region{At: at, Kind: kind, Data: data}
}

func TestNew(t *testing.T) {
	type regions = []api.Region
	big := strings.Repeat("x", 65536)
	for k, x := range []struct {
		l regions
		e api.Errno
	}{
		{nil, api.OK},
		{regions{region(0, 1, "a")}, api.OK},
		{regions{region(16, 3, nine)}, api.OK},
		{regions{region(api.MaxPlace, 2, big)}, api.OK},
		{regions{region(5, 1, "abc"), region(8, 2, "abc"), region(2, 3, "abc")}, api.OK},
		{regions{region(0, 0, "a")}, api.ErrArg},
		{regions{region(0, 4, "a")}, api.ErrArg},
		{regions{region(0, -1, "a")}, api.ErrArg},
		{regions{region(0, 1, "")}, api.ErrArg},
		{regions{region(0, 1, big+"x")}, api.ErrArg},
		{regions{region(api.MaxPlace+1, 1, "a")}, api.ErrRange},
		{regions{region(math.MaxUint64, 1, "a")}, api.ErrRange},
		{regions{region(api.MaxPlace+1, 1, "a"), region(0, 0, "a")}, api.ErrArg},
		{regions{region(1, 1, "a"), region(1, 2, "b"), region(api.MaxPlace+1, 1, "a")}, api.ErrRange},
		{regions{region(1, 1, "a"), region(1, 2, "b")}, api.ErrTwice},
		{regions{region(1, 1, "a"), region(1, 2, "b"), region(9, 1, "")}, api.ErrArg},
		{regions{region(5, 1, "abc"), region(7, 2, "abc")}, api.ErrTwice},
		{regions{region(7, 1, "abc"), region(5, 2, "abc")}, api.ErrTwice},
		{regions{region(0, 1, nine), region(20, 1, "a"), region(3, 2, "b")}, api.ErrTwice},
		{regions{region(100, 1, "a"), region(0, 1, big), region(70000, 1, "b")}, api.ErrTwice},
	} {
		m, e := mem.New(x.l...)
		if e != x.e || (m != nil) != (e == api.OK) {
			t.Errorf("New: %d: %v, %d", k, m != nil, e)
		}
	}
}

func memory(t *testing.T, l ...api.Region) *mem.Memory {
	t.Helper()
	m, e := mem.New(l...)
	if e != api.OK {
		t.Fatalf("New: %d", e)
	}
	return m
}

func TestLoad(t *testing.T) {
	m := memory(t, region(25, 1, "zz"), region(16, 3, nine), region(api.MaxPlace, 2, "12345678"))
	for _, x := range []struct {
		at   uint64
		size int
		want uint64
		e    api.Errno
	}{
		{16, 8, 578437695752307201, api.OK}, {17, 8, 650777868590383874, api.OK}, {18, 8, 0, api.ErrRange}, {24, 1, 9, api.OK}, {16, 1, 1, api.OK}, {25, 1, 'z', api.OK}, {26, 1, 'z', api.OK}, {27, 1, 0, api.ErrRange}, {15, 1, 0, api.ErrRange}, {15, 8, 0, api.ErrRange},
		{api.MaxPlace, 8, 0x3837363534333231, api.OK}, {api.MaxPlace + 7, 1, '8', api.OK}, {api.MaxPlace + 1, 8, 0, api.ErrRange}, {math.MaxUint64, 1, 0, api.ErrRange}, {math.MaxUint64, 8, 0, api.ErrRange}, {math.MaxUint64 - 3, 8, 0, api.ErrRange}, {0, 1, 0, api.ErrRange},
		{16, 4, 0, api.ErrArg}, {16, 0, 0, api.ErrArg}, {16, 2, 0, api.ErrArg}, {16, -1, 0, api.ErrArg}, {0, 9, 0, api.ErrArg}, {16, math.MaxInt, 0, api.ErrArg},
	} {
		if v, e := m.Load(x.at, x.size); v != x.want || e != x.e {
			t.Errorf("Load(%d, %d): %d, %d", x.at, x.size, v, e)
		}
	}
}

func TestStore(t *testing.T) {
	m := memory(t, region(16, 3, nine), region(32, 1, nine), region(48, 2, nine))
	for _, x := range []struct {
		at   uint64
		size int
		e    api.Errno
	}{
		{32, 8, api.ErrStuck}, {32, 1, api.ErrStuck}, {48, 1, api.ErrStuck}, {48, 8, api.ErrStuck}, {34, 8, api.ErrRange}, {25, 1, api.ErrRange}, {18, 8, api.ErrRange}, {math.MaxUint64, 8, api.ErrRange}, {32, 3, api.ErrArg}, {0, 0, api.ErrArg}, {16, 4, api.ErrArg},
	} {
		if e := m.Store(x.at, x.size, math.MaxUint64); e != x.e {
			t.Errorf("Store(%d, %d): %d", x.at, x.size, e)
		}
	}
	for _, at := range []uint64{16, 32, 48} {
		if s, _ := m.Text(at, 9); s != nine {
			t.Errorf("what was refused is there: %q", s)
		}
	}
	if e := m.Store(17, 8, 0xf8f7f6f5f4f3f2f1); e != api.OK {
		t.Errorf("Store: %d", e)
	}
	if s, _ := m.Text(16, 9); s != "\x01\xf1\xf2\xf3\xf4\xf5\xf6\xf7\xf8" {
		t.Errorf("stored: %q", s)
	}
	if e := m.Store(16, 1, 0x1234); e != api.OK {
		t.Errorf("Store: %d", e)
	}
	if s, _ := m.Text(16, 9); s != "\x34\xf1\xf2\xf3\xf4\xf5\xf6\xf7\xf8" {
		t.Errorf("stored: %q", s)
	}
}

func TestWord(t *testing.T) {
	m := memory(t, region(16, 1, nine), region(30, 1, "abcdef"), region(36, 2, nine), region(64, 3, nine), region(80, 1, "abc"))
	for _, x := range []struct {
		at   uint64
		want uint32
		e    api.Errno
	}{
		{16, 0x04030201, api.OK}, {20, 0x08070605, api.OK}, {24, 0, api.ErrRange}, {17, 0, api.ErrAlign}, {18, 0, api.ErrAlign}, {1, 0, api.ErrAlign}, {0, 0, api.ErrRange}, {28, 0, api.ErrRange}, {32, 0x66656463, api.OK}, {36, 0, api.ErrStuck}, {64, 0, api.ErrStuck}, {66, 0, api.ErrAlign}, {80, 0, api.ErrRange}, {72, 0, api.ErrRange}, {math.MaxUint64 - 3, 0, api.ErrRange}, {math.MaxUint64, 0, api.ErrAlign},
	} {
		if w, e := m.Word(x.at); w != x.want || e != x.e {
			t.Errorf("Word(%d): %#x, %d", x.at, w, e)
		}
	}
}

func TestText(t *testing.T) {
	big := strings.Repeat("q", 65536)
	m := memory(t, region(16, 1, nine), region(25, 2, "z"), region(1<<20, 3, big))
	for _, x := range []struct {
		at   uint64
		n    int
		want string
		e    api.Errno
	}{
		{16, 9, nine, api.OK}, {17, 2, "\x02\x03", api.OK}, {16, 10, "", api.ErrRange}, {25, 1, "z", api.OK}, {0, 0, "", api.OK}, {math.MaxUint64, 0, "", api.OK}, {16, 0, "", api.OK}, {15, 1, "", api.ErrRange}, {1 << 20, 65536, big, api.OK}, {1<<20 + 1, 65536, "", api.ErrRange}, {16, -1, "", api.ErrArg}, {1 << 20, 65537, "", api.ErrArg}, {0, math.MaxInt, "", api.ErrArg}, {0, math.MinInt, "", api.ErrArg},
	} {
		if s, e := m.Text(x.at, x.n); s != x.want || e != x.e {
			t.Errorf("Text(%d, %d): %d bytes, %d", x.at, x.n, len(s), e)
		}
	}
}

func TestNone(t *testing.T) {
	var none *mem.Memory
	if v, e := none.Load(1, 8); v != 0 || e != api.ErrArg {
		t.Errorf("Load of no memory: %d, %d", v, e)
	}
	v, a := none.Load(1, 3)
	b := none.Store(1, 8, 1)
	w, c := none.Word(1)
	s, d := none.Text(0, 0)
	if v != 0 || w != 0 || s != "" || a != api.ErrArg || b != a || c != a || d != a {
		t.Errorf("of no memory: %d %d %d %d", a, b, c, d)
	}
	for _, m := range []*mem.Memory{new(mem.Memory), memory(t)} {
		_, a = m.Load(0, 8)
		b = m.Store(0, 8, 1)
		_, c = m.Word(0)
		_, d = m.Text(0, 1)
		if a != api.ErrRange || b != a || c != a || d != a {
			t.Errorf("of a memory of nothing: %d %d %d %d", a, b, c, d)
		}
	}
}

// TestFollows holds P7.4: what is stored is loaded, byte by byte too, and other places and memories stay.
func TestFollows(t *testing.T) {
	r := rand.New(rand.NewSource(1))
	regions := []api.Region{region(200, 3, strings.Repeat("b", 40)), region(100, 3, strings.Repeat("a", 60)), region(160, 3, "ccccccccc")}
	m, other := memory(t, regions...), memory(t, regions...)
	model := map[uint64]byte{}
	for _, x := range regions {
		for k := range len(x.Data) {
			model[x.At+uint64(k)] = x.Data[k]
		}
	}
	for range 3000 {
		at, size, v := 95+uint64(r.Intn(150)), 1+7*r.Intn(2), r.Uint64()
		if e := m.Store(at, size, v); e == api.OK {
			for k := range size {
				model[at+uint64(k)] = byte(v >> (8 * k))
			}
			want := v
			if size == 1 {
				want &= 255
			}
			if got, _ := m.Load(at, size); got != want {
				t.Fatalf("Load(%d, %d): %d", at, size, got)
			}
		}
		at = 95 + uint64(r.Intn(150))
		if v, e := m.Load(at, 8); e == api.OK {
			for k := range 8 {
				if b, _ := m.Load(at+uint64(k), 1); b != v>>(8*k)&255 || byte(b) != model[at+uint64(k)] {
					t.Fatalf("Load(%d, 1): %d", at+uint64(k), b)
				}
			}
		}
	}
	for _, x := range regions {
		if s, e := other.Text(x.At, len(x.Data)); s != x.Data || e != api.OK {
			t.Errorf("another memory was turned: %q", s)
		}
	}
}
