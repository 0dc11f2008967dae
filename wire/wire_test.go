package wire_test

import (
	"math"
	"math/rand"
	"strings"
	"testing"

	"cleat/api"
	"cleat/wire"
)

const most = uint64(math.MaxUint64)

func TestNumber(t *testing.T) {
	for _, x := range []struct {
		v uint64
		s string
	}{
		{0, "\x00"}, {1, "\x01"}, {127, "\x7f"}, {128, "\x80\x01"}, {300, "\xac\x02"}, {16383, "\xff\x7f"}, {16384, "\x80\x80\x01"}, {1 << 63, "\x80\x80\x80\x80\x80\x80\x80\x80\x80\x01"}, {1<<63 - 1, "\xff\xff\xff\xff\xff\xff\xff\xff\x7f"}, {most, "\xff\xff\xff\xff\xff\xff\xff\xff\xff\x01"},
	} {
		if s := wire.Put(x.v); s != x.s {
			t.Errorf("Put(%d): %x", x.v, s)
		}
		for _, behind := range []string{"", "\x00", "\xff\xff", "abc"} {
			if v, n, e := wire.Get(x.s + behind); v != x.v || n != len(x.s) || e != api.OK {
				t.Errorf("Get(%x): %d, %d, %d", x.s+behind, v, n, e)
			}
		}
	}
	nine := strings.Repeat("\x80", 9)
	for _, x := range []struct {
		s string
		e api.Errno
	}{
		{"", api.ErrMore}, {"\x80", api.ErrMore}, {"\xff\xff", api.ErrMore}, {nine, api.ErrMore}, {strings.Repeat("\xff", 9), api.ErrMore},
		{"\x80\x00", api.ErrForm}, {"\xff\xff\x00", api.ErrForm}, {nine + "\x00", api.ErrForm}, {nine + "\x02", api.ErrForm}, {nine + "\x80", api.ErrForm}, {nine + "\x81\x00", api.ErrForm}, {strings.Repeat("\xff", 10), api.ErrForm}, {strings.Repeat("\xff", 100), api.ErrForm}, {nine + "\x7f", api.ErrForm}, {strings.Repeat("\x80", 8) + "\x00", api.ErrForm},
	} {
		if v, n, e := wire.Get(x.s); v != 0 || n != 0 || e != x.e {
			t.Errorf("Get(%x): %d, %d, %d", x.s, v, n, e)
		}
		if v, n, e := wire.GetInt(x.s); v != 0 || n != 0 || e != x.e {
			t.Errorf("GetInt(%x): %d, %d, %d", x.s, v, n, e)
		}
		if v, n, e := wire.GetText(x.s, 9); v != "" || n != 0 || e != x.e {
			t.Errorf("GetText(%x): %q, %d, %d", x.s, v, n, e)
		}
	}
}

func TestInt(t *testing.T) {
	for _, x := range []struct {
		n int
		s string
	}{
		{0, "\x00"}, {-1, "\x01"}, {1, "\x02"}, {-2, "\x03"}, {63, "\x7e"}, {-64, "\x7f"}, {64, "\x80\x01"}, {math.MaxInt64, "\xfe\xff\xff\xff\xff\xff\xff\xff\xff\x01"}, {math.MinInt64, "\xff\xff\xff\xff\xff\xff\xff\xff\xff\x01"},
	} {
		if s := wire.PutInt(x.n); s != x.s {
			t.Errorf("PutInt(%d): %x", x.n, s)
		}
		if n, size, e := wire.GetInt(x.s + "q"); n != x.n || size != len(x.s) || e != api.OK {
			t.Errorf("GetInt(%x): %d, %d, %d", x.s, n, size, e)
		}
	}
}

func TestText(t *testing.T) {
	big := strings.Repeat("q", 1000000)
	for _, x := range []struct {
		s, want string
	}{{"", "\x00"}, {"ab", "\x02ab"}, {"\x00\xff", "\x02\x00\xff"}, {big, "\xc0\x84\x3d" + big}} {
		s := wire.PutText(x.s)
		if s != x.want {
			t.Errorf("PutText of %d bytes: %d", len(x.s), len(s))
		}
		if got, n, e := wire.GetText(s+"zz", 1000000); got != x.s || n != len(s) || e != api.OK {
			t.Errorf("GetText of %d bytes: %d, %d, %d", len(x.s), len(got), n, e)
		}
	}
	for _, x := range []struct {
		s    string
		most int
		want string
		n    int
		e    api.Errno
	}{
		{"\x02ab", 2, "ab", 3, api.OK}, {"\x00", 0, "", 1, api.OK}, {"\x02ab", 1, "", 0, api.ErrLimit}, {"\x02a", 1, "", 0, api.ErrLimit}, {"\x02a", 2, "", 0, api.ErrMore}, {"\x02", 2, "", 0, api.ErrMore}, {"\x01", 0, "", 0, api.ErrLimit},
		{"\x02ab", -1, "", 0, api.ErrArg}, {"\x02ab", 1000001, "", 0, api.ErrArg}, {"", -1, "", 0, api.ErrArg}, {"\x80\x00", math.MaxInt, "", 0, api.ErrArg}, {"", math.MinInt, "", 0, api.ErrArg},
		{"\xff\xff\xff\xff\xff\xff\xff\xff\xff\x01ab", 1000000, "", 0, api.ErrLimit}, {"\xff\xff\xff\xff\xff\xff\xff\xff\x7fab", 1000000, "", 0, api.ErrLimit}, {"\xc0\x84\x3dab", 1000000, "", 0, api.ErrMore}, {"\xc1\x84\x3dab", 1000000, "", 0, api.ErrLimit},
	} {
		if s, n, e := wire.GetText(x.s, x.most); s != x.want || n != x.n || e != x.e {
			t.Errorf("GetText(%x, %d): %q, %d, %d", x.s, x.most, s, n, e)
		}
	}
}

// TestFollows holds P18.4: what is put is got, what is got is put, and a beginning asks for more.
func TestFollows(t *testing.T) {
	r := rand.New(rand.NewSource(1))
	for range 3000 {
		v := r.Uint64() >> r.Intn(64)
		n := int(r.Uint64()) >> r.Intn(64)
		text := strings.Repeat("x", r.Intn(300))
		for k, s := range []string{wire.Put(v), wire.PutInt(n), wire.PutText(text)} {
			behind := s + string([]byte{byte(r.Intn(256)), byte(r.Intn(256))})
			a, size, _ := wire.Get(behind)
			b, _, _ := wire.GetInt(behind)
			c, whole, _ := wire.GetText(behind, 300)
			if k == 0 && (a != v || size != len(s)) || k == 1 && b != n || k == 2 && (c != text || whole != len(s)) {
				t.Fatalf("%x is got as %d, %d, %q", s, a, b, c)
			}
			cut := s[:r.Intn(len(s))]
			_, _, e := wire.Get(cut)
			if k == 2 {
				_, _, e = wire.GetText(cut, 300)
			}
			if e != api.ErrMore {
				t.Fatalf("%x of %x: %d", cut, s, e)
			}
		}
		var raw []byte
		for range 1 + r.Intn(12) {
			raw = append(raw, byte(r.Intn(256))|byte(r.Intn(2))<<7)
		}
		if v, size, e := wire.Get(string(raw)); e == api.OK && wire.Put(v) != string(raw[:size]) {
			t.Fatalf("%x is got as %d", raw, v)
		}
	}
}
