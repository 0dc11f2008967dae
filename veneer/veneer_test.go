package veneer_test

import (
	"fmt"
	"math"
	"math/rand"
	"slices"
	"strings"
	"testing"

	"cleat/api"
	"cleat/code"
	"cleat/place"
	"cleat/shrink"
	"cleat/veneer"
)

const (
	bl   = "\x00\x00\x00\x94"
	most = uint64(math.MaxUint64)
)

func options() api.Options {
	return api.Options{Text: 65536, Data: 33554432, Stack: 67108864, Reach: 8192}
}

// unit is code of so many bytes that calls some units first.
func unit(size int, calls ...int) api.Unit {
	u := api.Unit{Name: "u", Kind: 1}
	for k, c := range calls {
		u.Refs = append(u.Refs, api.Ref{At: 4 * k, Kind: 2, Sec: c})
	}
	u.Data = strings.Repeat(bl, len(calls)) + strings.Repeat("x", size-4*len(calls))
	return u
}

// apart makes units that do not fold.
func apart(u ...api.Unit) []api.Unit {
	for k := range u {
		if n := len(u[k].Data); n > 4*len(u[k].Refs) {
			u[k].Data = u[k].Data[:n-1] + string(rune('A'+k%60))
		}
	}
	return u
}

func whole(t *testing.T, u []api.Unit) api.Kept {
	t.Helper()
	for k := range u {
		u[k].Keep = true
	}
	k, e := shrink.Shrink(u, 0)
	if e != api.OK {
		t.Fatalf("Shrink: %d", e)
	}
	return k
}

func TestCode(t *testing.T) {
	for _, x := range []struct {
		from, to uint64
		pages    int
		low      int
	}{
		{65536, 131076, 16, 4}, {65536, 65536, 0, 0}, {69636, 65539, -1, 3}, {69628, 65539, 0, 3}, {4096, 4095, -1, 4095}, {0, 1<<32 - 1, 1<<20 - 1, 4095}, {1 << 40, 1<<40 - 1<<32, -1 << 20, 0}, {4092, 4096, 1, 0}, {0, most, -1, 4095}, {most - 3, 5, 1, 5}, {8, most - 1<<32 + 1, -1 << 20, 0},
	} {
		s, e := veneer.Code(x.from, x.to)
		want := []api.Inst{{Op: 28, D: 16, Imm: x.pages}, {Op: 4, D: 16, N: 16, Imm: x.low}, {Op: 34, N: 16}}
		if len(s) != 12 || e != api.OK {
			t.Errorf("Code(%d, %d): %x, %d", x.from, x.to, s, e)
			continue
		}
		for k, i := range want {
			w, _ := code.Encode(i)
			if got := s[4*k : 4*k+4]; got != string([]byte{byte(w), byte(w >> 8), byte(w >> 16), byte(w >> 24)}) {
				t.Errorf("Code(%d, %d): word %d: %x, not %#x", x.from, x.to, k, got, w)
			}
		}
	}
	for _, x := range []struct {
		from, to uint64
		e        api.Errno
	}{{1, 0, api.ErrAlign}, {65538, 131076, api.ErrAlign}, {3, 1 << 50, api.ErrAlign}, {0, 1 << 32, api.ErrRange}, {4092, 1 << 32, api.ErrRange}, {0, 1 << 63, api.ErrRange}, {1 << 40, 1<<40 - 1<<32 - 1, api.ErrRange}, {0, most - 1<<32, api.ErrRange}} {
		if s, e := veneer.Code(x.from, x.to); s != "" || e != x.e {
			t.Errorf("Code(%d, %d): %x, %d", x.from, x.to, s, e)
		}
	}
}

func TestLay(t *testing.T) {
	u := apart(unit(6), api.Unit{Name: "d", Kind: 3, Data: "123"}, unit(8, 0), api.Unit{Name: "r", Kind: 2, Align: 3, Data: "123456789"}, api.Unit{Name: "e", Kind: 1, Align: 4})
	k := whole(t, u)
	o := options()
	for n, x := range []struct {
		v      []api.Veneer
		at, vs []uint64
	}{
		{nil, []uint64{65536, 65544, 65552, 33554432, 33554441}, nil},
		{[]api.Veneer{{Sec: 0, To: 2}, {Sec: 2, To: 1}, {Sec: 0, To: 2, Add: 4}, {Sec: 4, To: 4, Add: -1}}, []uint64{65536, 65568, 65600, 33554432, 33554441}, []uint64{65544, 65576, 65556, 65600}},
	} {
		at, vs, e := veneer.Lay(u, k, o, x.v)
		if !slices.Equal(at, x.at) || !slices.Equal(vs, x.vs) || e != api.OK {
			t.Errorf("Lay: %d: %v, %v, %d", n, at, vs, e)
		}
	}
	k.Align[0] = 1
	if at, vs, e := veneer.Lay(u, k, o, nil); len(at) != 0 || len(vs) != 0 || e != api.ErrArg {
		t.Errorf("Lay of wrong alignments: %v, %v, %d", at, vs, e)
	}
}

// TestFolded lays one that stands for another, with the greatest alignment of both.
func TestFolded(t *testing.T) {
	u := []api.Unit{unit(4, 1), unit(4, 1), unit(5, 0)}
	u[1].Align, u[1].Keep, u[2].Keep = 6, true, true
	k, _ := shrink.Shrink(u, 0)
	if at, _, e := veneer.Lay(u, k, options(), nil); !slices.Equal(at, []uint64{65536, 65540}) || e != api.OK || k.Align[0] != 6 {
		t.Errorf("Lay: %v, %d, %v", at, e, k)
	}
	u = append([]api.Unit{unit(5)}, unit(4, 2), unit(4, 2))
	u[1].Align, u[1].Keep, u[2].Keep = 6, true, true
	k, _ = shrink.Shrink(u, 0)
	if at, _, e := veneer.Lay(u, k, options(), nil); !slices.Equal(at, []uint64{65536, 65600}) || e != api.OK {
		t.Errorf("Lay: %v, %d, %v", at, e, k)
	}
}

func TestWrong(t *testing.T) {
	u := apart(unit(8, 1), unit(9, 0), api.Unit{Name: "d", Kind: 3, Data: "1"}, unit(5))
	u[0].Keep, u[2].Keep = true, true
	k, _ := shrink.Shrink(u, 0)
	many := func(n int) []api.Veneer {
		var l []api.Veneer
		for j := range n {
			l = append(l, api.Veneer{Sec: 1, Add: j})
		}
		return l
	}
	bad := options()
	bad.Reach = 1
	for n, x := range []struct {
		u []api.Unit
		k api.Kept
		o api.Options
		v []api.Veneer
		e api.Errno
	}{
		{u, k, options(), many(64), api.OK}, {u, k, options(), many(65), api.ErrArg}, {u, k, bad, nil, api.ErrArg}, {u, api.Kept{}, options(), nil, api.ErrArg}, {u[:2], k, options(), nil, api.ErrArg},
		{u, k, options(), []api.Veneer{{Sec: 0, To: 2}}, api.OK}, {u, k, options(), []api.Veneer{{Sec: 2, To: 0}}, api.ErrArg}, {u, k, options(), []api.Veneer{{Sec: 3, To: 0}}, api.ErrArg}, {u, k, options(), []api.Veneer{{Sec: 0, To: 3}}, api.ErrArg}, {u, k, options(), []api.Veneer{{Sec: -1, To: 0}}, api.ErrArg}, {u, k, options(), []api.Veneer{{Sec: 0, To: -1}}, api.ErrArg}, {u, k, options(), []api.Veneer{{Sec: 4, To: 0}}, api.ErrArg}, {u, k, options(), []api.Veneer{{Sec: 0, To: math.MaxInt}}, api.ErrArg},
		{u, k, options(), []api.Veneer{{Sec: 0, To: 1}, {Sec: 1, To: 1}, {Sec: 0, To: 1}}, api.ErrArg}, {u, k, options(), []api.Veneer{{Sec: 0, To: 1}, {Sec: 0, To: 1, Add: 1}}, api.OK},
	} {
		at, vs, e := veneer.Lay(x.u, x.k, x.o, x.v)
		w, f := veneer.Wants(x.u, x.k, x.o, x.v)
		if e != x.e || f != x.e || e != api.OK && (len(at) != 0 || len(vs) != 0 || len(w) != 0) {
			t.Errorf("%d: %d, %d", n, e, f)
		}
		p, g := veneer.Plan(x.u, x.k, x.o)
		if x.v == nil && (g != x.e || g != api.OK && fmt.Sprint(p) != fmt.Sprint(api.Plan{})) {
			t.Errorf("Plan: %d: %v, %d", n, p, g)
		}
		if len(x.k.Live) == 0 {
			continue
		}
		p = api.Plan{At: make([]uint64, len(k.Live)), Vens: x.v, VenAt: make([]uint64, len(x.v))}
		if v, h := veneer.Goal(x.u, x.k, p, 0, 0); x.o.Reach != 1 && (h != x.e || h != api.OK && v != 0) {
			t.Errorf("Goal: %d: %d, %d", n, v, h)
		}
	}
}

// row is code that is not near the last one, of 8188 bytes and some more between.
func row(more int, calls ...int) []api.Unit {
	return apart(unit(4*len(calls), calls...), unit(4096), unit(4096-4*len(calls)+more), unit(4), api.Unit{Name: "d", Kind: 3, Data: "1"})
}

func TestWants(t *testing.T) {
	o := options()
	for n, x := range []struct {
		u    []api.Unit
		v    []api.Veneer
		want []api.Veneer
	}{
		{row(-4, 3), nil, nil},
		{row(0, 3), nil, []api.Veneer{{Sec: 0, To: 3}}},
		{row(0, 3), []api.Veneer{{Sec: 0, To: 3}}, nil},
		{row(0, 3), []api.Veneer{{Sec: 0, To: 2}}, []api.Veneer{{Sec: 0, To: 3}}},
		{row(4, 3, 3, 1), nil, []api.Veneer{{Sec: 0, To: 3}}},
		{row(0, 3, 3), []api.Veneer{{Sec: 1, To: 1}}, []api.Veneer{{Sec: 0, To: 3}}},
		{row(0, 1, 3), nil, nil},
		{row(0, 4, 1), nil, []api.Veneer{{Sec: 0, To: 4}}},
	} {
		k := whole(t, x.u)
		given := slices.Clone(x.v)
		l, e := veneer.Wants(x.u, k, o, x.v)
		if !slices.Equal(l, x.want) || e != api.OK || !slices.Equal(given, x.v) {
			t.Errorf("Wants: %d: %v, %d", n, l, e)
		}
	}
	u := row(-4, 3, 3, 3)
	u[0].Refs[1].Add, u[0].Refs[2].Add = 8, -9000
	k := whole(t, u)
	if l, e := veneer.Wants(u, k, o, nil); !slices.Equal(l, []api.Veneer{{Sec: 0, To: 3, Add: 8}}) || e != api.OK {
		t.Errorf("Wants with Adds: %v, %d", l, e)
	}
	back := apart(unit(4096), unit(4096), unit(12, 0, 0, 0))
	back[2].Refs[1].Add, back[2].Refs[2].Add = 4, 8
	if l, e := veneer.Wants(back, whole(t, back), o, nil); len(l) != 0 || e != api.OK {
		t.Errorf("Wants downward: %v, %d", l, e)
	}
	back[2].Refs[0].Add, back[2].Refs[2].Add = -4, 4
	if l, e := veneer.Wants(back, whole(t, back), o, nil); !slices.Equal(l, []api.Veneer{{Sec: 2, To: 0, Add: -4}, {Sec: 2, To: 0, Add: 4}}) || e != api.OK {
		t.Errorf("Wants downward: %v, %d", l, e)
	}
	near := row(0, 3)
	near[0].Data, near[0].Refs[0].Kind = "\x00\x00\x00\x10", 5
	if l, e := veneer.Wants(near, whole(t, near), o, nil); len(l) != 0 || e != api.OK {
		t.Errorf("Wants of what is no call: %v, %d", l, e)
	}
	o.Reach = 8196
	if l, _ := veneer.Wants(row(0, 3), whole(t, row(0, 3)), o, nil); len(l) != 0 {
		t.Errorf("Wants with more reach: %v", l)
	}
}

func TestPlan(t *testing.T) {
	o := options()
	u := row(-4, 3, 3)
	u[0].Refs[1].Add = 8
	k := whole(t, u)
	p, e := veneer.Plan(u, k, o)
	// The second call wants a veneer, which drives the first one too far.
	want := api.Plan{At: []uint64{65536, 65568, 69664, 73748, 33554432}, Vens: []api.Veneer{{Sec: 0, To: 3, Add: 8}, {Sec: 0, To: 3}}, VenAt: []uint64{65544, 65556}, Rounds: 3}
	if fmt.Sprint(p) != fmt.Sprint(want) || e != api.OK {
		t.Errorf("Plan: %v, %d, not %v", p, e, want)
	}
	for ref, goal := range []uint64{65556, 65544} {
		if v, e := veneer.Goal(u, k, p, 0, ref); v != goal || e != api.OK {
			t.Errorf("Goal(%d): %d, %d", ref, v, e)
		}
	}
	u = row(-8, 3, 1)
	k = whole(t, u)
	if p, _ := veneer.Plan(u, k, o); p.Rounds != 1 || len(p.Vens) != 0 || len(p.VenAt) != 0 || !slices.Equal(p.At, []uint64{65536, 65544, 69640, 73720, 33554432}) {
		t.Errorf("Plan without veneers: %v", p)
	}
	if p, e := veneer.Plan(nil, api.Kept{}, o); p.Rounds != 1 || len(p.At) != 0 || e != api.OK {
		t.Errorf("Plan of nothing: %v, %d", p, e)
	}
}

func TestGoal(t *testing.T) {
	u := apart(unit(16, 1, 3, 1), unit(8, 0), api.Unit{Name: "d", Kind: 3, Data: strings.Repeat("\x00", 8), Refs: []api.Ref{{Kind: 1}}}, unit(8, 0))
	u[2].Data, u[3].Data = strings.Repeat("\x00", 8), u[1].Data
	u[0].Refs[2].Add = -4
	u[0].Data = u[0].Data[:12] + "\x00\x00\x00\x10"
	u[0].Refs = append(u[0].Refs, api.Ref{At: 12, Kind: 5, Sec: 1})
	k := whole(t, u)
	p := api.Plan{At: []uint64{1000, 2000, 3000}, Vens: []api.Veneer{{Sec: 1, To: 1, Add: -4}, {Sec: 0, To: 1, Add: 1}, {Sec: 0, To: 1, Add: -4}}, VenAt: []uint64{7, 8, 9}, Rounds: -5}
	for _, x := range []struct {
		at, ref int
		want    uint64
		e       api.Errno
	}{
		{0, 0, 2000, api.OK}, {0, 1, 2000, api.OK}, {0, 2, 9, api.OK}, {1, 0, 1000, api.OK},
		{0, 3, 0, api.ErrArg}, {0, 4, 0, api.ErrArg}, {0, -1, 0, api.ErrArg}, {0, math.MaxInt, 0, api.ErrArg}, {2, 0, 0, api.ErrArg}, {3, 0, 0, api.ErrArg}, {4, 0, 0, api.ErrArg}, {-1, 0, 0, api.ErrArg}, {math.MinInt, 0, 0, api.ErrArg},
	} {
		if v, e := veneer.Goal(u, k, p, x.at, x.ref); v != x.want || e != x.e {
			t.Errorf("Goal(%d, %d): %d, %d", x.at, x.ref, v, e)
		}
	}
	p.Vens = nil
	if v, e := veneer.Goal(u, k, p, 0, 0); v != 0 || e != api.ErrArg {
		t.Errorf("Goal with places of no veneers: %d, %d", v, e)
	}
	p.VenAt, p.At = nil, []uint64{0, 0}
	if v, e := veneer.Goal(u, k, p, 0, 0); v != 0 || e != api.ErrArg {
		t.Errorf("Goal with too few places: %d, %d", v, e)
	}
	p.At = []uint64{0, 0, 0}
	if v, e := veneer.Goal(u, k, p, 0, 2); v != most-3 || e != api.OK {
		t.Errorf("Goal ahead of 0: %d, %d", v, e)
	}
}

// TestFollows holds P25.6, and that a plan is what Lay and Wants make of it, round after round.
func TestFollows(t *testing.T) {
	r := rand.New(rand.NewSource(1))
	with := 0
	for range 60 {
		n := 4 + r.Intn(12)
		var u []api.Unit
		for range n {
			var calls []int
			for range r.Intn(12) {
				calls = append(calls, r.Intn(n))
			}
			u = append(u, unit(4*len(calls)+1+r.Intn(4000), calls...))
		}
		apart(u...)
		for j := range u {
			u[j].Align = r.Intn(5)
			for i := range u[j].Refs {
				u[j].Refs[i].Add = 4 * r.Intn(3)
			}
		}
		k, o := whole(t, u), options()
		p, e := veneer.Plan(u, k, o)
		if e != api.OK {
			t.Fatalf("Plan: %d", e)
		}
		var v []api.Veneer
		rounds := 0
		for {
			rounds++
			l, _ := veneer.Wants(u, k, o, v)
			if len(l) == 0 {
				break
			}
			v = append(v, l...)
		}
		at, vs, _ := veneer.Lay(u, k, o, v)
		if !slices.Equal(p.Vens, v) || !slices.Equal(p.At, at) || !slices.Equal(p.VenAt, vs) || p.Rounds != rounds {
			t.Fatalf("Plan: %v, not %v in %d rounds", p, v, rounds)
		}
		calls := 0
		for n, j := range k.Live {
			for i, ref := range u[j].Refs {
				calls++
				goal, e := veneer.Goal(u, k, p, j, i)
				if e != api.OK || !place.Near(p.At[n]+uint64(ref.At), goal, o.Reach) {
					t.Fatalf("the goal %d of %d of %d is not near: %d", goal, i, j, e)
				}
			}
			end := p.At[n] + uint64(len(u[j].Data))
			for i, x := range p.Vens {
				if x.Sec == j {
					with++
					if p.VenAt[i] < end || p.VenAt[i]%4 != 0 || n+1 < len(p.At) && p.VenAt[i]+12 > p.At[n+1] {
						t.Fatalf("veneer %d of %d: %v", i, j, p)
					}
					end = p.VenAt[i] + 12
				}
			}
		}
		if p.Rounds > calls+1 {
			t.Fatalf("%d rounds of %d calls", p.Rounds, calls)
		}
	}
	if with < 50 {
		t.Errorf("only %d veneers", with)
	}
}
