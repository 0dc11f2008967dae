package pool_test

import (
	"math"
	"math/rand"
	"slices"
	"testing"

	"cleat/api"
	"cleat/pool"
)

const most = uint64(math.MaxUint64)

func TestOf(t *testing.T) {
	for _, x := range []struct {
		n api.Need
		l api.Lit
		e api.Errno
	}{
		{api.Need{Kind: 10, V: 7}, api.Lit{V: 7}, api.OK},
		{api.Need{Kind: 10, V: 1, Minus: true}, api.Lit{V: most}, api.OK},
		{api.Need{Kind: 10, V: most, Minus: true}, api.Lit{V: 1}, api.OK},
		{api.Need{Kind: 10, Minus: true}, api.Lit{}, api.OK},
		{api.Need{Kind: 10}, api.Lit{}, api.OK},
		{api.Need{Kind: 10, V: 7, Add: 9}, api.Lit{V: 7}, api.OK},
		{api.Need{Kind: 10, Sym: "a", Add: -9}, api.Lit{Sym: "a", Add: -9}, api.OK},
		{api.Need{Kind: 10, Sym: "a", V: 1}, api.Lit{}, api.ErrArg},
		{api.Need{Kind: 10, Sym: "a", Minus: true}, api.Lit{}, api.ErrArg},
		{api.Need{Kind: 4, Sym: "a"}, api.Lit{}, api.ErrArg},
		{api.Need{Kind: 0, V: 7}, api.Lit{}, api.ErrArg},
		{api.Need{Kind: 11, V: 7}, api.Lit{}, api.ErrArg},
		{api.Need{Kind: -10, V: 7}, api.Lit{}, api.ErrArg},
	} {
		if l, e := pool.Of(x.n); l != x.l || e != x.e {
			t.Errorf("Of(%v): %v, %d", x.n, l, e)
		}
		p := pool.New()
		if at, e := p.Put(x.n); at != 0 || e != x.e || (e == api.OK) != (p.Size() == 1) {
			t.Errorf("Put(%v): %d, %d", x.n, at, e)
		}
	}
}

func TestValue(t *testing.T) {
	for _, x := range []struct {
		l api.Lit
		s string
		e api.Errno
	}{
		{api.Lit{}, "\x00\x00\x00\x00\x00\x00\x00\x00", api.OK},
		{api.Lit{V: 0x0807060504030201}, "\x01\x02\x03\x04\x05\x06\x07\x08", api.OK},
		{api.Lit{V: most}, "\xff\xff\xff\xff\xff\xff\xff\xff", api.OK},
		{api.Lit{Sym: "a", Add: 5}, "\x00\x00\x00\x00\x00\x00\x00\x00", api.OK},
		{api.Lit{Sym: "a", V: 1}, "", api.ErrArg},
		{api.Lit{Add: 1}, "", api.ErrArg},
		{api.Lit{V: 5, Add: -1}, "", api.ErrArg},
	} {
		if s, e := pool.Value(x.l); s != x.s || e != x.e {
			t.Errorf("Value(%v): %q, %d", x.l, s, e)
		}
	}
}

func put(t *testing.T, p *pool.Pool, n api.Need, want int) {
	t.Helper()
	if at, e := p.Put(n); at != want || e != api.OK {
		t.Errorf("Put(%v): %d, %d, not %d", n, at, e, want)
	}
}

func TestPool(t *testing.T) {
	p := pool.New()
	if p.Size() != 0 || len(p.Take()) != 0 {
		t.Error("a new pool has some")
	}
	one := api.Need{Kind: 10, V: 1, Minus: true}
	a8, a := api.Need{Kind: 10, Sym: "a", Add: 8}, api.Need{Kind: 10, Sym: "a"}
	put(t, p, one, 0)
	put(t, p, api.Need{Kind: 10, V: most}, 0)
	put(t, p, a8, 1)
	put(t, p, a, 2)
	put(t, p, one, 0)
	put(t, p, a8, 1)
	if p.Size() != 3 {
		t.Errorf("Size: %d", p.Size())
	}
	want := []api.Lit{{V: most}, {Sym: "a", Add: 8}, {Sym: "a"}}
	l := p.Take()
	if !slices.Equal(l, want) || p.Size() != 0 || len(p.Take()) != 0 {
		t.Errorf("Take: %v", l)
	}
	put(t, p, a, 0)
	put(t, p, one, 1)
	if !slices.Equal(l, want) {
		t.Errorf("what was taken is turned: %v", l)
	}
	if l := p.Take(); !slices.Equal(l, []api.Lit{{Sym: "a"}, {V: most}}) {
		t.Errorf("Take: %v", l)
	}
}

func TestLimit(t *testing.T) {
	p, other := pool.New(), pool.New()
	for k := range 64 {
		put(t, p, api.Need{Kind: 10, V: uint64(k)}, k)
	}
	put(t, p, api.Need{Kind: 10, V: 63}, 63)
	if at, e := p.Put(api.Need{Kind: 10, V: 64}); at != 0 || e != api.ErrLimit || p.Size() != 64 {
		t.Errorf("one more: %d, %d", at, e)
	}
	if at, e := p.Put(api.Need{Kind: 9, V: 64}); at != 0 || e != api.ErrArg {
		t.Errorf("one more that is wrong: %d, %d", at, e)
	}
	if other.Size() != 0 || len(p.Take()) != 64 {
		t.Error("pools are not apart")
	}
	put(t, p, api.Need{Kind: 10, V: 64}, 0)
}

func TestNone(t *testing.T) {
	var p *pool.Pool
	if at, e := p.Put(api.Need{Kind: 10}); at != 0 || e != api.ErrArg || len(p.Take()) != 0 || p.Size() != 0 {
		t.Errorf("of no pool: %d, %d", at, e)
	}
	var zero pool.Pool
	zero.Take()
	zero.Put(api.Need{Kind: 10})
	zero.Size()
}

// TestFollows holds P15.3.
func TestFollows(t *testing.T) {
	r := rand.New(rand.NewSource(1))
	for range 200 {
		p := pool.New()
		places := map[api.Lit]int{}
		for range r.Intn(60) {
			n := api.Need{Kind: 10, V: uint64(r.Intn(5)), Minus: r.Intn(2) == 0}
			if r.Intn(2) == 0 {
				n = api.Need{Kind: 10, Sym: string(rune('a' + r.Intn(3))), Add: r.Intn(4)}
			}
			l, _ := pool.Of(n)
			at, e := p.Put(n)
			if was, ok := places[l]; e != api.OK || ok && was != at || !ok && at != len(places) {
				t.Fatalf("Put(%v): %d, %d", n, at, e)
			}
			places[l] = at
		}
		for k, l := range p.Take() {
			n := api.Need{Kind: 10, Sym: l.Sym, Add: l.Add, V: l.V}
			if at, e := p.Put(n); at != k || at != places[l] || e != api.OK {
				t.Fatalf("Put(%v) again: %d, %d", n, at, e)
			}
		}
	}
}
