package image_test

import (
	"fmt"
	"math"
	"math/rand"
	"strings"
	"testing"

	"cleat/api"
	"cleat/code"
	"cleat/image"
	"cleat/mem"
	"cleat/step"
)

func word(i api.Inst) string {
	w, _ := code.Encode(i)
	return string([]byte{byte(w), byte(w >> 8), byte(w >> 16), byte(w >> 24)})
}

// sample tells 7, stores it on the stack, and halts with it.
func sample() api.Image {
	return api.Image{Entry: 65540, Stack: 1 << 20, Segs: []api.Region{
		{At: 65536, Kind: 1, Data: word(api.Inst{Op: 38}) + word(api.Inst{Op: 1, Imm: 7}) + word(api.Inst{Op: 37, Imm: 1}) + word(api.Inst{Op: 5, D: 31, N: 31, Imm: 16}) + word(api.Inst{Op: 23, N: 31, Imm: 8}) + word(api.Inst{Op: 22, D: 1, N: 31}) + word(api.Inst{Op: 22, N: 31, Imm: 8}) + word(api.Inst{Op: 37})},
		{At: 1 << 19, Kind: 3, Data: "abc"},
		{At: 1<<20 + 4096, Kind: 2, Data: "d"},
	}}
}

func same(a, b api.Image) bool {
	return fmt.Sprint(a.Entry, a.Stack, append([]api.Region{}, a.Segs...)) == fmt.Sprint(b.Entry, b.Stack, append([]api.Region{}, b.Segs...))
}

// wrongs are images that are not right, each by one thing.
func wrongs() []api.Image {
	var l []api.Image
	turn := func(f func(x *api.Image)) {
		x := sample()
		f(&x)
		l = append(l, x)
	}
	turn(func(x *api.Image) { x.Entry = 65538 })
	turn(func(x *api.Image) { x.Entry = 65537 })
	turn(func(x *api.Image) { x.Entry = api.MaxPlace + 4 })
	turn(func(x *api.Image) { x.Entry = math.MaxUint64 - 3 })
	turn(func(x *api.Image) { x.Stack += 2048 })
	turn(func(x *api.Image) { x.Stack = api.MaxPlace + 4096 })
	turn(func(x *api.Image) { x.Segs[0], x.Segs[1] = x.Segs[1], x.Segs[0] })
	turn(func(x *api.Image) { x.Segs[1].At = 65536 })
	turn(func(x *api.Image) { x.Segs[1].At = 65540 })
	turn(func(x *api.Image) { x.Segs[2].At = 1<<20 + 4095 })
	turn(func(x *api.Image) { x.Segs[2].At = 1 << 20 })
	turn(func(x *api.Image) { x.Segs[1].At = 1<<20 - 2 })
	turn(func(x *api.Image) { x.Segs[2].At = api.MaxPlace + 1 })
	turn(func(x *api.Image) { x.Segs[1].Kind = 0 })
	turn(func(x *api.Image) { x.Segs[1].Kind = 4 })
	turn(func(x *api.Image) { x.Segs[1].Data = "" })
	turn(func(x *api.Image) { x.Segs[1].Data = strings.Repeat("x", 65537) })
	turn(func(x *api.Image) { x.Segs = segs(257) })
	return l
}

// segs are so many segments of a byte.
func segs(n int) []api.Region {
	var l []api.Region
	for k := range n {
		l = append(l, api.Region{At: uint64(2 * k), Kind: 1 + k%3, Data: "x"})
	}
	return l
}

func TestIsPut(t *testing.T) {
	for k, x := range []api.Image{sample(), {}, {Entry: 4}, {Entry: api.MaxPlace, Stack: api.MaxPlace}, {Stack: 8192, Segs: segs(256)}, {Segs: []api.Region{{At: 4096, Kind: 1, Data: strings.Repeat("x", 65536)}}}} {
		s, e := image.Put(x)
		back, f := image.Get(s)
		if !image.Is(x) || e != api.OK || f != api.OK || !same(x, back) {
			t.Errorf("%d: %v, %d, %d", k, image.Is(x), e, f)
		}
	}
	if s, _ := image.Put(api.Image{Entry: 4}); s != "CLIMG\x01\x04\x00\x00" {
		t.Errorf("Put: %x", s)
	}
	if s, _ := image.Put(api.Image{Entry: 300, Stack: 4096, Segs: []api.Region{{At: 128, Kind: 2, Data: "ab"}, {At: 8192, Kind: 1, Data: "c"}}}); s != "CLIMG\x01\xac\x02\x80\x20\x02\x80\x01\x02\x02ab\x80\x40\x01\x01c" {
		t.Errorf("Put: %x", s)
	}
	for k, x := range wrongs() {
		s, e := image.Put(x)
		m, c, f := image.Load(x)
		trace := image.Run(x, 10)
		if image.Is(x) || s != "" || e != api.ErrArg || m != nil || c != (api.Cpu{}) || f != api.ErrArg || fmt.Sprint(trace) != fmt.Sprint(api.Trace{E: api.ErrArg}) {
			t.Errorf("%d: %v, %d, %d, %v", k, image.Is(x), e, f, trace)
		}
	}
}

func TestGet(t *testing.T) {
	const good = "CLIMG\x01\xac\x02\x80\x20\x02\x80\x01\x02\x02ab\x80\x40\x01\x01c"
	if _, e := image.Get(good); e != api.OK {
		t.Errorf("Get: %d", e)
	}
	wrong := func(s string) {
		t.Helper()
		if x, e := image.Get(s); !same(x, api.Image{}) || e != api.ErrForm {
			t.Errorf("Get(%x): %v, %d", s, x, e)
		}
	}
	for k := range good {
		wrong(good[:k])
	}
	for _, s := range []string{"", "\x04\x00\x00", good[6:], "x" + good, good + "\x00", "CLEAT" + good[5:], "CLIMG\x02" + good[6:], "climg" + good[5:], "CLIMG\x01\x84\x00\x00\x00", "CLIMG\x01\x05\x00\x00", "CLIMG\x01\x04\x01\x00", "CLIMG\x01\x04\x00\x81\x02", "CLIMG\x01\x04\x00\xff\xff\xff\xff\xff\xff\xff\xff\xff\x01", "CLIMG\x01\x04\x00\x01\x80\x40\x00\x01a", "CLIMG\x01\x04\x00\x01\x80\x40\x04\x01a", "CLIMG\x01\x04\x00\x01\x80\x40\xff\xff\xff\xff\xff\xff\xff\xff\xff\x01\x01a", "CLIMG\x01\x04\x00\x01\x80\x40\x01\x00", "CLIMG\x01\x04\x00\x01\x05\x01\x01a", "CLIMG\x01\x04\x00\x02\x80\x40\x01\x01a\x80\x40\x01\x01a", "CLIMG\x01\x04\x00\x02\x81\x40\x01\x01a\x80\x40\x01\x01a"} {
		wrong(s)
	}
}

func TestLoad(t *testing.T) {
	x := sample()
	m, c, e := image.Load(x)
	if c != (api.Cpu{Pc: 65540, Sp: 1<<20 + 4096}) || e != api.OK {
		t.Errorf("Load: %v, %d", c, e)
	}
	for _, s := range x.Segs {
		if got, e := m.Text(s.At, len(s.Data)); got != s.Data || e != api.OK {
			t.Errorf("the segment at %d: %q, %d", s.At, got, e)
		}
	}
	if got, e := m.Text(1<<20, 4096); got != strings.Repeat("\x00", 4096) || e != api.OK {
		t.Errorf("the stack: %d", e)
	}
	kinds := []api.Errno{m.Store(65536, 1, 0), m.Store(1<<19, 1, 0), m.Store(1<<20+4096, 1, 0), m.Store(1<<20, 8, 5), m.Store(1<<20+4088, 8, 5)}
	if fmt.Sprint(kinds) != fmt.Sprint([]api.Errno{api.ErrStuck, api.OK, api.ErrStuck, api.OK, api.OK}) {
		t.Errorf("kinds: %v", kinds)
	}
	if again, _, _ := image.Load(x); again == nil {
		t.Error("Load again")
	} else if v, _ := again.Load(1<<20, 8); v != 0 {
		t.Error("memories are shared")
	}
}

func TestRun(t *testing.T) {
	x := sample()
	for n, want := range map[int]api.Trace{0: {}, 1: {Steps: 1}, 2: {Told: []uint64{7}, Steps: 2}, 7: {Told: []uint64{7}, Halted: true, Code: 7, Steps: 7}, 100000: {Told: []uint64{7}, Halted: true, Code: 7, Steps: 7}, -1: {E: api.ErrArg}, 100001: {E: api.ErrArg}} {
		for range 2 {
			if got := image.Run(x, n); fmt.Sprint(got) != fmt.Sprint(want) {
				t.Errorf("Run(%d): %v", n, got)
			}
		}
	}
	x.Entry = 0
	if got := image.Run(x, 5); fmt.Sprint(got) != fmt.Sprint(api.Trace{E: api.ErrRange}) {
		t.Errorf("Run from nowhere: %v", got)
	}
	if !same(sample(), func() api.Image { y := sample(); image.Run(y, 9); return y }()) {
		t.Error("a run turns the image")
	}
}

// TestFollows holds P27.4: bytes turned by one are no image's, or another one's, put as it was; a run is layer 8's.
func TestFollows(t *testing.T) {
	r := rand.New(rand.NewSource(1))
	s, _ := image.Put(sample())
	got := 0
	for range 4000 {
		b := []byte(s)
		b[r.Intn(len(b))] ^= 1 << r.Intn(8)
		x, e := image.Get(string(b))
		if e != api.OK {
			if e != api.ErrForm || !same(x, api.Image{}) {
				t.Fatalf("Get: %d", e)
			}
			continue
		}
		got++
		if p, e := image.Put(x); p != string(b) || e != api.OK || !image.Is(x) {
			t.Fatalf("%x is got, and put as %x", b, p)
		}
		m, _ := mem.New(append([]api.Region{{At: x.Stack, Kind: 3, Data: strings.Repeat("\x00", 4096)}}, x.Segs...)...)
		_, want := step.Run(api.Cpu{Pc: x.Entry, Sp: x.Stack + 4096}, m, 20)
		if trace := image.Run(x, 20); fmt.Sprint(trace) != fmt.Sprint(want) {
			t.Fatalf("Run: %v, not %v", trace, want)
		}
	}
	if got < 100 {
		t.Errorf("only %d are got", got)
	}
}
