package part_test

import (
	"math"
	"math/rand"
	"slices"
	"strings"
	"testing"

	"cleat/api"
	"cleat/code"
	"cleat/part"
)

func encode(t *testing.T, i api.Inst) uint32 {
	t.Helper()
	w, e := code.Encode(i)
	if e != api.OK {
		t.Fatalf("Encode(%v): %d", i, e)
	}
	return w
}

func text(w uint32) string {
	return string([]byte{byte(w), byte(w >> 8), byte(w >> 16), byte(w >> 24)})
}

func same(a, b api.Sec) bool {
	return a.Name == b.Name && a.Kind == b.Kind && a.Keep == b.Keep && a.Align == b.Align && a.Data == b.Data && slices.Equal(a.Rels, b.Rels)
}

// fitting has, of each operation that fits a kind, that kind.
func fitting() map[int]int {
	return map[int]int{29: 2, 30: 2, 31: 3, 32: 3, 33: 3, 26: 4, 27: 5, 28: 6, 4: 7, 22: 8, 23: 8, 24: 9, 25: 9}
}

func TestFits(t *testing.T) {
	for op := 1; op <= api.MaxOp; op++ {
		i := api.Inst{Op: op}
		if op >= 8 && op <= 11 {
			i.Mask = 6
		}
		w := encode(t, i)
		for kind := -1; kind <= 11; kind++ {
			want := kind != 0 && fitting()[op] == kind
			if part.Fits(kind, w) != want {
				t.Errorf("Fits(%d, operation %d): %v", kind, op, !want)
			}
		}
	}
	for _, i := range []api.Inst{{Op: 29, Imm: 4}, {Op: 30, Imm: -4}, {Op: 31, Imm: 4}, {Op: 32, Imm: 4}, {Op: 26, Imm: 4}, {Op: 27, Imm: 1}, {Op: 28, Imm: 1}, {Op: 4, Imm: 1}, {Op: 4, Amount: 12}, {Op: 22, Imm: 8}, {Op: 25, Imm: 1}} {
		if part.Fits(fitting()[i.Op], encode(t, i)) {
			t.Errorf("Fits(%v): true", i)
		}
	}
	for _, i := range []api.Inst{{Op: 31, Cond: 13}, {Op: 32, D: 31}, {Op: 26, D: 5}, {Op: 27, D: 30}, {Op: 28, D: 1}, {Op: 4, D: 31, N: 31}, {Op: 23, D: 4, N: 31}, {Op: 24, D: 1, N: 2}} {
		if !part.Fits(fitting()[i.Op], encode(t, i)) {
			t.Errorf("Fits(%v): false", i)
		}
	}
	for _, kind := range []int{math.MinInt, -1, 0, 1, 2, 9, 10, math.MaxInt} {
		if part.Fits(kind, 0) || part.Fits(kind, 1409286144+14) {
			t.Errorf("Fits(%d) of no instruction", kind)
		}
	}
}

func TestIs(t *testing.T) {
	bl, add := text(encode(t, api.Inst{Op: 30})), text(encode(t, api.Inst{Op: 4, D: 1, N: 2}))
	zeros := strings.Repeat("\x00", 16)
	type rels = []api.Rel
	many := func(n int) rels {
		var l rels
		for k := range n {
			l = append(l, api.Rel{At: 4 * k, Kind: 2})
		}
		return l
	}
	for k, x := range []struct {
		s    api.Sec
		want bool
	}{
		{api.Sec{Name: "a", Kind: 1}, true}, {api.Sec{Name: ".a$", Kind: 2, Keep: true, Align: 12}, true}, {api.Sec{Name: "a", Kind: 3, Data: strings.Repeat("x", 4096)}, true},
		{api.Sec{Name: "", Kind: 1}, false}, {api.Sec{Name: "x1", Kind: 1}, false}, {api.Sec{Name: "1f", Kind: 1}, false}, {api.Sec{Name: "a b", Kind: 1}, false}, {api.Sec{Name: strings.Repeat("a", 32), Kind: 1}, false},
		{api.Sec{Name: "a", Kind: 0}, false}, {api.Sec{Name: "a", Kind: 4}, false}, {api.Sec{Name: "a", Kind: -1}, false}, {api.Sec{Name: "a", Kind: 1, Align: -1}, false}, {api.Sec{Name: "a", Kind: 1, Align: 13}, false}, {api.Sec{Name: "a", Kind: 1, Data: strings.Repeat("x", 4097)}, false},
		{api.Sec{Name: "a", Kind: 1, Data: bl + bl, Rels: rels{{At: 0, Kind: 2}, {At: 4, Kind: 2, Sym: math.MaxInt, Add: math.MinInt}}}, true},
		{api.Sec{Name: "a", Kind: 1, Data: bl + bl, Rels: rels{{At: 4, Kind: 2}, {At: 0, Kind: 2}}}, false},
		{api.Sec{Name: "a", Kind: 1, Data: bl + bl, Rels: rels{{At: 4, Kind: 2}, {At: 4, Kind: 2}}}, false},
		{api.Sec{Name: "a", Kind: 1, Data: bl + bl, Rels: rels{{At: 2, Kind: 2}}}, false},
		{api.Sec{Name: "a", Kind: 1, Data: "x" + bl + bl, Rels: rels{{At: 1, Kind: 2}}}, false},
		{api.Sec{Name: "a", Kind: 1, Data: bl, Rels: rels{{At: -4, Kind: 2}}}, false},
		{api.Sec{Name: "a", Kind: 1, Data: bl, Rels: rels{{At: 4, Kind: 2}}}, false},
		{api.Sec{Name: "a", Kind: 1, Data: bl, Rels: rels{{At: math.MaxInt - 3, Kind: 2}}}, false},
		{api.Sec{Name: "a", Kind: 1, Data: bl, Rels: rels{{At: math.MinInt, Kind: 2}}}, false},
		{api.Sec{Name: "a", Kind: 1, Data: bl[:3], Rels: rels{{At: 0, Kind: 2}}}, false},
		{api.Sec{Name: "a", Kind: 1, Data: bl, Rels: rels{{At: 0, Kind: 2, Sym: -1}}}, false},
		{api.Sec{Name: "a", Kind: 1, Data: bl, Rels: rels{{At: 0, Kind: 3}}}, false},
		{api.Sec{Name: "a", Kind: 1, Data: bl, Rels: rels{{At: 0, Kind: 0}}}, false},
		{api.Sec{Name: "a", Kind: 1, Data: bl, Rels: rels{{At: 0, Kind: 10}}}, false},
		{api.Sec{Name: "a", Kind: 2, Data: bl, Rels: rels{{At: 0, Kind: 2}}}, false},
		{api.Sec{Name: "a", Kind: 3, Data: bl, Rels: rels{{At: 0, Kind: 2}}}, false},
		{api.Sec{Name: "a", Kind: 1, Data: add, Rels: rels{{At: 0, Kind: 7}}}, true},
		{api.Sec{Name: "a", Kind: 1, Data: zeros, Rels: rels{{At: 0, Kind: 1}, {At: 8, Kind: 1}}}, true},
		{api.Sec{Name: "a", Kind: 3, Data: "x" + zeros, Rels: rels{{At: 1, Kind: 1}, {At: 9, Kind: 1}}}, true},
		{api.Sec{Name: "a", Kind: 2, Data: zeros, Rels: rels{{At: 0, Kind: 1}, {At: 7, Kind: 1}}}, false},
		{api.Sec{Name: "a", Kind: 2, Data: zeros, Rels: rels{{At: 9, Kind: 1}}}, false},
		{api.Sec{Name: "a", Kind: 2, Data: "\x00\x00\x00\x00\x00\x00\x00\x01", Rels: rels{{At: 0, Kind: 1}}}, false},
		{api.Sec{Name: "a", Kind: 2, Data: "\x01\x00\x00\x00\x00\x00\x00\x00", Rels: rels{{At: 0, Kind: 1}}}, false},
		{api.Sec{Name: "a", Kind: 1, Data: zeros[:8] + bl, Rels: rels{{At: 0, Kind: 1}, {At: 8, Kind: 2}}}, true},
		{api.Sec{Name: "a", Kind: 1, Data: zeros[:8] + bl, Rels: rels{{At: 0, Kind: 1}, {At: 4, Kind: 2}}}, false},
		{api.Sec{Name: "a", Kind: 1, Data: strings.Repeat(bl, 64), Rels: many(64)}, true},
		{api.Sec{Name: "a", Kind: 1, Data: strings.Repeat(bl, 65), Rels: many(65)}, false},
	} {
		if part.Is(x.s) != x.want {
			t.Errorf("Is: %d: %v", k, !x.want)
		}
		_, a := part.Put(x.s, "")
		_, b := part.Align(x.s, 99)
		_, c := part.Word(x.s, 0, 99, 0, 0)
		_, d := part.Quad(x.s, 0, -1, 0)
		if wrong := a == api.ErrArg && b == a && c == a && d == a; !x.want && !wrong || x.want && a != api.OK {
			t.Errorf("grown: %d: %d %d %d %d", k, a, b, c, d)
		}
	}
}

func TestNew(t *testing.T) {
	for _, x := range []struct {
		name string
		kind int
		keep bool
		e    api.Errno
	}{{"a", 1, false, api.OK}, {".x", 3, true, api.OK}, {"a", 0, true, api.ErrArg}, {"a", 4, true, api.ErrArg}, {"a", math.MinInt, true, api.ErrArg}, {"x1", 1, true, api.ErrName}, {"", 0, true, api.ErrName}, {"lsl", 9, true, api.ErrName}} {
		want := api.Sec{Name: x.name, Kind: x.kind, Keep: x.keep}
		if x.e != api.OK {
			want = api.Sec{}
		}
		if s, e := part.New(x.name, x.kind, x.keep); !same(s, want) || e != x.e {
			t.Errorf("New(%q, %d): %v, %d", x.name, x.kind, s, e)
		}
	}
}

func TestPutAlign(t *testing.T) {
	base := api.Sec{Name: "a", Kind: 3, Keep: true, Align: 2, Data: "xyz"}
	if s, e := part.Put(base, "\x00w"); !same(s, api.Sec{Name: "a", Kind: 3, Keep: true, Align: 2, Data: "xyz\x00w"}) || e != api.OK {
		t.Errorf("Put: %v, %d", s, e)
	}
	if s, e := part.Put(base, strings.Repeat("q", 4093)); len(s.Data) != 4096 || e != api.OK {
		t.Errorf("Put up to the limit: %d, %d", len(s.Data), e)
	}
	if s, e := part.Put(base, strings.Repeat("q", 4094)); !same(s, api.Sec{}) || e != api.ErrLimit {
		t.Errorf("Put over the limit: %d, %d", len(s.Data), e)
	}
	for n, want := range []int{3, 4, 4, 8, 16, 32, 64, 128, 256, 512, 1024, 2048, 4096} {
		s, e := part.Align(base, n)
		if len(s.Data) != want || s.Align != max(2, n) || s.Data != "xyz"+strings.Repeat("\x00", want-3) || e != api.OK || !s.Keep {
			t.Errorf("Align(%d): %d, %d, %d", n, len(s.Data), s.Align, e)
		}
		if again, _ := part.Align(s, n); !same(again, s) {
			t.Errorf("Align(%d) twice: %d", n, len(again.Data))
		}
	}
	for _, n := range []int{-1, 13, math.MaxInt, math.MinInt} {
		if s, e := part.Align(base, n); !same(s, api.Sec{}) || e != api.ErrRange {
			t.Errorf("Align(%d): %v, %d", n, s, e)
		}
	}
	if s, e := part.Align(api.Sec{Name: "a", Kind: 1}, 12); s.Data != "" || s.Align != 12 || e != api.OK {
		t.Errorf("Align of nothing: %v, %d", s, e)
	}
	full, _ := part.Put(api.Sec{Name: "a", Kind: 1}, strings.Repeat("q", 4095))
	if s, e := part.Align(full, 12); len(s.Data) != 4096 || e != api.OK {
		t.Errorf("Align of 4095: %d, %d", len(s.Data), e)
	}
	if s, e := part.Put(full, "ab"); !same(s, api.Sec{}) || e != api.ErrLimit {
		t.Errorf("Put over the limit: %d, %d", len(s.Data), e)
	}
}

func TestWord(t *testing.T) {
	w, nop := encode(t, api.Inst{Op: 30}), encode(t, api.Inst{Op: 38})
	code1, data := api.Sec{Name: "a", Kind: 1, Data: text(nop)}, api.Sec{Name: "a", Kind: 3}
	full := api.Sec{Name: "a", Kind: 1, Data: strings.Repeat(text(w), 1024)}
	rels := full
	rels.Data = rels.Data[:256]
	for k := range 64 {
		rels.Rels = append(rels.Rels, api.Rel{At: 4 * k, Kind: 2})
	}
	odd := api.Sec{Name: "a", Kind: 1, Data: "ab"}
	for k, x := range []struct {
		s              api.Sec
		w              uint32
		kind, sym, add int
		e              api.Errno
	}{
		{code1, w, 2, 5, -7, api.OK}, {code1, w, 2, 0, 0, api.OK}, {code1, w, 0, -5, 3, api.OK}, {code1, 0xffffffff, 0, 0, 0, api.OK}, {data, 0xffffffff, 0, math.MinInt, 0, api.OK}, {rels, nop, 0, 0, 0, api.OK},
		{odd, w, 2, 0, 0, api.ErrAlign}, {odd, w, 99, -1, 0, api.ErrAlign}, {odd, w, 0, 0, 0, api.ErrAlign},
		{data, w, 2, 0, 0, api.ErrArg}, {code1, nop, 2, 0, 0, api.ErrArg}, {code1, w, 3, 0, 0, api.ErrArg}, {code1, w, 1, 0, 0, api.ErrArg}, {code1, w, 10, 0, 0, api.ErrArg}, {code1, w, -1, 0, 0, api.ErrArg}, {code1, w, 2, -1, 0, api.ErrArg}, {code1, w + 1, 2, 0, 0, api.ErrArg}, {full, w, 2, -1, 0, api.ErrArg},
		{full, w, 2, 0, 0, api.ErrLimit}, {full, w, 0, 0, 0, api.ErrLimit}, {rels, w, 2, 0, 0, api.ErrLimit},
	} {
		given := slices.Clone(x.s.Rels)
		want := x.s
		want.Data += text(x.w)
		if x.kind != 0 {
			want.Rels = append(slices.Clone(x.s.Rels), api.Rel{At: len(x.s.Data), Kind: x.kind, Sym: x.sym, Add: x.add})
		}
		if x.e != api.OK {
			want = api.Sec{}
		}
		if s, e := part.Word(x.s, x.w, x.kind, x.sym, x.add); !same(s, want) || e != x.e || !slices.Equal(given, x.s.Rels) {
			t.Errorf("Word: %d: %v, %d", k, s, e)
		}
	}
}

func TestQuad(t *testing.T) {
	zeros := strings.Repeat("\x00", 8)
	odd := api.Sec{Name: "a", Kind: 2, Data: "ab"}
	if s, e := part.Quad(odd, 0x0807060504030201, -1, 9); !same(s, api.Sec{Name: "a", Kind: 2, Data: "ab\x01\x02\x03\x04\x05\x06\x07\x08"}) || e != api.OK {
		t.Errorf("Quad of a number: %v, %d", s, e)
	}
	if s, e := part.Quad(odd, math.MaxUint64, math.MinInt, 9); s.Data != "ab\xff\xff\xff\xff\xff\xff\xff\xff" || len(s.Rels) != 0 || e != api.OK {
		t.Errorf("Quad of a number: %v, %d", s, e)
	}
	for _, kind := range []int{1, 2, 3} {
		odd.Kind = kind
		if s, e := part.Quad(odd, 77, 3, -9); !same(s, api.Sec{Name: "a", Kind: kind, Data: "ab" + zeros, Rels: []api.Rel{{At: 2, Kind: 1, Sym: 3, Add: -9}}}) || e != api.OK {
			t.Errorf("Quad of a symbol: %v, %d", s, e)
		}
	}
	s := api.Sec{Name: "a", Kind: 1}
	for range 64 {
		s, _ = part.Quad(s, 0, 0, 0)
	}
	if r, e := part.Quad(s, 0, 0, 0); !same(r, api.Sec{}) || e != api.ErrLimit {
		t.Errorf("65 relocations: %d", e)
	}
	if r, e := part.Quad(s, 0, -1, 0); len(r.Data) != 520 || e != api.OK {
		t.Errorf("a number behind 64 relocations: %d, %d", len(r.Data), e)
	}
	full := api.Sec{Name: "a", Kind: 1, Data: strings.Repeat("x", 4089)}
	for _, sym := range []int{-1, 0} {
		if r, e := part.Quad(full, 0, sym, 0); !same(r, api.Sec{}) || e != api.ErrLimit {
			t.Errorf("Quad over the limit: %d", e)
		}
	}
	full.Data = full.Data[1:]
	if r, e := part.Quad(full, 0, 0, 0); len(r.Data) != 4096 || e != api.OK {
		t.Errorf("Quad up to the limit: %d, %d", len(r.Data), e)
	}
}

// TestFollows holds P16.4, and that what comes out shares nothing with what was handed in.
func TestFollows(t *testing.T) {
	r := rand.New(rand.NewSource(1))
	bl := encode(t, api.Inst{Op: 30})
	for range 100 {
		s, _ := part.New("a", 1, r.Intn(2) == 0)
		s.Rels = make([]api.Rel, 0, 100)
		for range 30 {
			var next api.Sec
			var e api.Errno
			switch r.Intn(4) {
			case 0:
				one, two := strings.Repeat("p", r.Intn(5)), strings.Repeat("q", r.Intn(5))
				first, _ := part.Put(s, one)
				first, _ = part.Put(first, two)
				next, e = part.Put(s, one+two)
				if !same(first, next) {
					t.Fatalf("put in two parts: %v, %v", first, next)
				}
			case 1:
				next, e = part.Align(s, r.Intn(5))
			case 2:
				next, e = part.Word(s, bl, 2*r.Intn(2), r.Intn(9), r.Intn(9)-4)
			case 3:
				next, e = part.Quad(s, r.Uint64(), r.Intn(9)-3, r.Intn(9)-4)
			}
			if e != api.OK {
				continue
			}
			if !part.Is(next) || !strings.HasPrefix(next.Data, s.Data) || len(next.Rels) < len(s.Rels) || !slices.Equal(next.Rels[:len(s.Rels)], s.Rels) {
				t.Fatalf("%v grows to %v", s, next)
			}
			before := slices.Clone(s.Rels)
			for k := range next.Rels {
				next.Rels[k].Add++
			}
			if all := s.Rels[:cap(s.Rels)]; !slices.Equal(s.Rels, before) || len(all) > len(before) && len(before) == 0 && all[0] != (api.Rel{}) {
				t.Fatal("memory is shared")
			}
			s = next
		}
	}
}
