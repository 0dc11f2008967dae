package obj_test

import (
	"fmt"
	"math"
	"math/rand"
	"strings"
	"testing"

	"cleat/api"
	"cleat/asm"
	"cleat/obj"
	"cleat/wire"
)

type secs = []api.Sec

type syms = []api.Sym

type rels = []api.Rel

func same(a, b api.Object) bool {
	flat := func(o api.Object) string {
		s := ""
		for _, x := range o.Secs {
			s += fmt.Sprintf("%q %d %v %d %x %v;", x.Name, x.Kind, x.Keep, x.Align, x.Data, append(rels{}, x.Rels...))
		}
		return s + fmt.Sprint(append(syms{}, o.Syms...))
	}
	return flat(a) == flat(b)
}

func zeros(n int) string { return strings.Repeat("\x00", n) }

// bl is the word of bl with an Imm of 0.
const bl = "\x00\x00\x00\x94"

func sample() api.Object {
	return api.Object{
		Secs: secs{{Name: "t", Kind: 1, Keep: true, Align: 2, Data: bl + bl, Rels: rels{{At: 0, Kind: 2, Sym: 1, Add: -4}, {At: 4, Kind: 2, Sym: 3, Add: 300}}}, {Name: "d", Kind: 3, Data: "x" + zeros(8), Rels: rels{{At: 1, Kind: 1}}}},
		Syms: syms{{Bind: 1, Off: 8}, {Name: "m", Bind: 2}, {Name: "w", Bind: 3, Sec: 1, Off: 9}, {Name: "u", Bind: 2, Sec: -1}, {Name: "v", Bind: 3, Sec: -1}, {Name: "l", Bind: 1, Sec: 1, Off: 1}, {Bind: 1, Off: 8}},
	}
}

const sampleBytes = "CLEAT\x01\x02" +
	"\x01t\x01\x01\x02\x08" + bl + bl + "\x02\x00\x02\x01\x07\x04\x02\x03\xd8\x04" +
	"\x01d\x03\x00\x00\x09x\x00\x00\x00\x00\x00\x00\x00\x00\x01\x01\x01\x00\x00" +
	"\x07\x00\x01\x01\x08\x01m\x02\x01\x00\x01w\x03\x02\x09\x01u\x02\x00\x00\x01v\x03\x00\x00\x01l\x01\x02\x01\x00\x01\x01\x08"

// wrongs are objects that are not right, each by one thing.
func wrongs() []api.Object {
	var l []api.Object
	turn := func(f func(o *api.Object)) {
		o := sample()
		f(&o)
		l = append(l, o)
	}
	turn(func(o *api.Object) { o.Secs[1].Name = "t" })
	turn(func(o *api.Object) { o.Secs[1].Name = "x1" })
	turn(func(o *api.Object) { o.Secs[1].Kind = 0 })
	turn(func(o *api.Object) { o.Secs[1].Align = 13 })
	turn(func(o *api.Object) { o.Secs[1].Data = strings.Repeat("x", 4097) })
	turn(func(o *api.Object) { o.Secs[0].Rels[1].At = 0 })
	turn(func(o *api.Object) { o.Secs[0].Rels[0].Sym = 7 })
	turn(func(o *api.Object) { o.Secs[0].Rels[0].Sym = -1 })
	turn(func(o *api.Object) { o.Secs[0].Rels[0].Sym = math.MaxInt })
	turn(func(o *api.Object) { o.Syms[0].Bind = 0 })
	turn(func(o *api.Object) { o.Syms[0].Bind = 2 })
	turn(func(o *api.Object) { o.Syms[0].Bind = 3 })
	turn(func(o *api.Object) { o.Syms[1].Bind = 4 })
	turn(func(o *api.Object) { o.Syms[1].Bind = -1 })
	turn(func(o *api.Object) { o.Syms[0].Off = 9 })
	turn(func(o *api.Object) { o.Syms[0].Off = -1 })
	turn(func(o *api.Object) { o.Syms[2].Off = 10 })
	turn(func(o *api.Object) { o.Syms[2].Sec = 2 })
	turn(func(o *api.Object) { o.Syms[2].Sec = -2 })
	turn(func(o *api.Object) { o.Syms[2].Sec = math.MaxInt })
	turn(func(o *api.Object) { o.Syms[0].Sec, o.Syms[0].Off = -1, 0 })
	turn(func(o *api.Object) { o.Syms[5].Sec, o.Syms[5].Off = -1, 0 })
	turn(func(o *api.Object) { o.Syms[3].Off = 1 })
	turn(func(o *api.Object) { o.Syms[4].Off = -1 })
	turn(func(o *api.Object) { o.Syms[3].Name = "m" })
	turn(func(o *api.Object) { o.Syms[5].Name = "m" })
	turn(func(o *api.Object) { o.Syms[5].Name = "x1" })
	turn(func(o *api.Object) { o.Syms[5].Name = "1f" })
	turn(func(o *api.Object) { o.Syms[5].Name = strings.Repeat("a", 32) })
	turn(func(o *api.Object) { o.Syms = o.Syms[:1] })
	turn(func(o *api.Object) {
		for k := range 31 {
			o.Secs = append(o.Secs, api.Sec{Name: fmt.Sprint("s", k), Kind: 1})
		}
	})
	turn(func(o *api.Object) { o.Syms = append(o.Syms, make(syms, 122)...) })
	for k := range l {
		for j := range l[k].Syms[min(7, len(l[k].Syms)):] {
			l[k].Syms[7+j].Bind = 1
		}
	}
	return l
}

func TestIsPut(t *testing.T) {
	big := sample()
	for k := range 30 {
		big.Secs = append(big.Secs, api.Sec{Name: fmt.Sprint("s", k), Kind: 1})
	}
	for range 121 {
		big.Syms = append(big.Syms, api.Sym{Bind: 1})
	}
	most := api.Object{
		Secs: secs{{Name: strings.Repeat("s", 31), Kind: 1, Align: 12, Data: strings.Repeat(bl, 1024)}},
		Syms: syms{{Name: strings.Repeat("n", 31), Bind: 2, Off: 4096}},
	}
	for k := range 64 {
		most.Secs[0].Rels = append(most.Secs[0].Rels, api.Rel{At: 4 * k, Kind: 2, Add: math.MinInt})
	}
	for k, o := range []api.Object{{}, sample(), big, most} {
		s, e := obj.Put(o)
		back, f := obj.Get(s)
		if !obj.Is(o) || e != api.OK || f != api.OK || !same(o, back) {
			t.Errorf("%d: %v, %d, %d", k, obj.Is(o), e, f)
		}
	}
	if s, _ := obj.Put(api.Object{}); s != "CLEAT\x01\x00\x00" {
		t.Errorf("Put of nothing: %x", s)
	}
	if s, _ := obj.Put(sample()); s != sampleBytes {
		t.Errorf("Put: %x, not %x", s, sampleBytes)
	}
	for k, o := range wrongs() {
		at, ok := obj.Find(o, "m")
		if s, e := obj.Put(o); obj.Is(o) || s != "" || e != api.ErrArg || at != 0 || ok {
			t.Errorf("%d: %v, %q, %d, %v", k, obj.Is(o), s, e, ok)
		}
	}
}

func TestFind(t *testing.T) {
	for name, want := range map[string]int{"m": 1, "w": 2, "u": 3, "v": 4, "l": 5} {
		if at, ok := obj.Find(sample(), name); at != want || !ok {
			t.Errorf("Find(%q): %d, %v", name, at, ok)
		}
	}
	for _, name := range []string{"", "t", "d", "M", "zz", "\x00"} {
		if at, ok := obj.Find(sample(), name); at != 0 || ok {
			t.Errorf("Find(%q): %d, %v", name, at, ok)
		}
	}
}

// raw writes an object's bytes without asking whether it is right.
func raw(o api.Object) string {
	n := func(v int) string { return wire.Put(uint64(v)) }
	s := "CLEAT\x01" + n(len(o.Secs))
	for _, x := range o.Secs {
		keep := 0
		if x.Keep {
			keep = 1
		}
		s += wire.PutText(x.Name) + n(x.Kind) + n(keep) + n(x.Align) + wire.PutText(x.Data) + n(len(x.Rels))
		for _, r := range x.Rels {
			s += n(r.At) + n(r.Kind) + n(r.Sym) + wire.PutInt(r.Add)
		}
	}
	s += n(len(o.Syms))
	for _, x := range o.Syms {
		s += wire.PutText(x.Name) + n(x.Bind) + n(x.Sec+1) + n(x.Off)
	}
	return s
}

func TestGet(t *testing.T) {
	if raw(sample()) != sampleBytes {
		t.Fatal("the test's own bytes are wrong")
	}
	if o, e := obj.Get(sampleBytes); !same(o, sample()) || e != api.OK {
		t.Errorf("Get: %v, %d", o, e)
	}
	wrong := func(s string) {
		t.Helper()
		if o, e := obj.Get(s); !same(o, api.Object{}) || e != api.ErrForm {
			t.Errorf("Get(%x): %v, %d", s, o, e)
		}
	}
	for _, o := range wrongs() {
		wrong(raw(o))
	}
	for k := range sampleBytes {
		wrong(sampleBytes[:k])
	}
	for _, s := range []string{"", "\x00\x00", sampleBytes[6:], "x" + sampleBytes, sampleBytes + "\x00", "cleat" + sampleBytes[5:], "CLEAT\x02" + sampleBytes[6:], "CLEAT\x01\x00", "CLEAT\x01\x80\x00\x00", "CLEAT\x01\x00\x80\x00", "CLEAT\x01\x00\x00\x00", strings.Replace(sampleBytes, "t\x01\x01", "t\x01\x02", 1), strings.Replace(sampleBytes, "\x02\x08"+bl, "\x02\x88\x00"+bl, 1), "CLEAT\x01\xff\xff\xff\xff\xff\xff\xff\xff\xff\x01", "CLEAT\x01\x00\xff\xff\xff\xff\xff\xff\xff\xff\xff\x01", "CLEAT\x01\x00\x01\x00\x01\x80\x80\x80\x80\x80\x80\x80\x80\x80\x01\x00"} {
		wrong(s)
	}
}

// TestFollows holds P19.3: bytes turned by one are no object's, or another one's, put as it was.
func TestFollows(t *testing.T) {
	r := rand.New(rand.NewSource(1))
	text := ".global m\n.text t, keep\nm: ldr x0, =7\nbl far\n1: b 1b\n.data d\n.align 3\n.quad m+5, d1\nd1: .ascii \"hello\"\n.weak far\n"
	o, f := asm.Assemble(text)
	s, e := obj.Put(o)
	if f.Code != api.OK || e != api.OK {
		t.Fatalf("%v, %d", f, e)
	}
	back, e := obj.Get(s)
	if !same(back, o) || e != api.OK {
		t.Errorf("Get(Put): %d", e)
	}
	back.Secs[0].Rels[0].Add = 99
	if again, _ := obj.Get(s); !same(again, o) {
		t.Error("what comes out shares its memory")
	}
	got := 0
	for range 5000 {
		b := []byte(s)
		b[r.Intn(len(b))] = byte(r.Intn(256))
		x, e := obj.Get(string(b))
		if e != api.OK {
			if e != api.ErrForm || !same(x, api.Object{}) {
				t.Fatalf("Get: %d", e)
			}
			continue
		}
		got++
		if p, e := obj.Put(x); p != string(b) || e != api.OK || !obj.Is(x) {
			t.Fatalf("%x is got, and put as %x", b, p)
		}
	}
	if got < 10 {
		t.Errorf("only %d are got", got)
	}
}
