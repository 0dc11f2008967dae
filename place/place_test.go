package place_test

import (
	"math"
	"math/rand"
	"slices"
	"testing"

	"cleat/api"
	"cleat/place"
)

const most = uint64(math.MaxUint64)

func TestGood(t *testing.T) {
	const half = 2305843009213693952
	base := api.Options{Text: 65536, Data: 33554432, Stack: 67108864, Reach: 134217724}
	turned := func(f func(o *api.Options)) api.Options {
		o := base
		f(&o)
		return o
	}
	for k, x := range []struct {
		o    api.Options
		want bool
	}{
		{base, true}, {turned(func(o *api.Options) { o.Reach = 8192 }), true}, {turned(func(o *api.Options) { o.Reach = 8196 }), true}, {turned(func(o *api.Options) { o.Text = half }), true}, {turned(func(o *api.Options) { o.Stack = half }), true}, {turned(func(o *api.Options) { o.Data = half }), true},
		{turned(func(o *api.Options) { o.Text, o.Data, o.Stack = 33554432, 16777216, 0 }), true}, {turned(func(o *api.Options) { o.Text, o.Data, o.Stack = 16777216, 33554432, 0 }), true},
		{turned(func(o *api.Options) { o.Reach = 8188 }), false}, {turned(func(o *api.Options) { o.Reach = 134217728 }), false}, {turned(func(o *api.Options) { o.Reach = 8194 }), false}, {turned(func(o *api.Options) { o.Reach = 0 }), false}, {turned(func(o *api.Options) { o.Reach = -8192 }), false}, {turned(func(o *api.Options) { o.Reach = math.MaxInt }), false}, {turned(func(o *api.Options) { o.Reach = math.MinInt }), false},
		{turned(func(o *api.Options) { o.Text = 65537 }), false}, {turned(func(o *api.Options) { o.Data += 2048 }), false}, {turned(func(o *api.Options) { o.Stack += 8 }), false},
		{turned(func(o *api.Options) { o.Text = half + 4096 }), false}, {turned(func(o *api.Options) { o.Data = half + 4096 }), false}, {turned(func(o *api.Options) { o.Stack = half + 4096 }), false}, {turned(func(o *api.Options) { o.Stack = most - 4095 }), false},
		{turned(func(o *api.Options) { o.Data = o.Text }), false}, {turned(func(o *api.Options) { o.Stack = o.Text }), false}, {turned(func(o *api.Options) { o.Stack = o.Data }), false}, {turned(func(o *api.Options) { o.Data = o.Text + 16777216 - 4096 }), false}, {turned(func(o *api.Options) { o.Data = o.Text + 16777216 }), true}, {turned(func(o *api.Options) { o.Stack = o.Data - 16777216 + 4096 }), false}, {turned(func(o *api.Options) { o.Text = o.Stack - 16777216 + 4096 }), false}, {turned(func(o *api.Options) { o.Text = o.Stack + 16777216 - 4096 }), false}, {turned(func(o *api.Options) { o.Text = o.Stack + 16777216 }), true},
		{api.Options{}, false},
	} {
		if place.Good(x.o) != x.want {
			t.Errorf("Good: %d: %v", k, !x.want)
		}
	}
}

func TestUp(t *testing.T) {
	for _, x := range []struct {
		at   uint64
		n    int
		want uint64
		e    api.Errno
	}{
		{0, 12, 0, api.OK}, {1, 0, 1, api.OK}, {1, 1, 2, api.OK}, {1, 12, 4096, api.OK}, {4096, 12, 4096, api.OK}, {4097, 12, 8192, api.OK}, {100, 2, 100, api.OK}, {109, 3, 112, api.OK}, {1 << 63, 12, 1 << 63, api.OK}, {1<<63 - 1, 12, 1 << 63, api.OK},
		{1<<63 + 1, 0, 0, api.ErrRange}, {most, 12, 0, api.ErrRange}, {1, -1, 0, api.ErrArg}, {1, 13, 0, api.ErrArg}, {most, 13, 0, api.ErrArg}, {1, math.MaxInt, 0, api.ErrArg}, {1, math.MinInt, 0, api.ErrArg},
	} {
		if v, e := place.Up(x.at, x.n); v != x.want || e != x.e {
			t.Errorf("Up(%d, %d): %d, %d", x.at, x.n, v, e)
		}
	}
}

func TestLay(t *testing.T) {
	type blocks = []api.Block
	for k, x := range []struct {
		l    blocks
		base uint64
		at   []uint64
		end  uint64
		e    api.Errno
	}{
		{blocks{{Size: 3, Align: 0}, {Size: 5, Align: 2}, {Size: 0, Align: 3}}, 100, []uint64{100, 104, 112}, 112, api.OK},
		{nil, 77, nil, 77, api.OK},
		{blocks{{Size: 0, Align: 12}}, 1, []uint64{4096}, 4096, api.OK},
		{blocks{{Size: 16384, Align: 0}, {Size: 1, Align: 12}}, api.MaxPlace, []uint64{api.MaxPlace, api.MaxPlace + 16384}, api.MaxPlace + 16385, api.OK},
		{nil, api.MaxPlace, nil, api.MaxPlace, api.OK}, {nil, api.MaxPlace + 1, nil, 0, api.ErrRange}, {blocks{{Size: 1, Align: 1}}, most, nil, 0, api.ErrRange},
		{blocks{{Size: -1, Align: 0}}, 0, nil, 0, api.ErrArg}, {blocks{{Size: 16385, Align: 0}}, 0, nil, 0, api.ErrArg}, {blocks{{Size: 1, Align: -1}}, 0, nil, 0, api.ErrArg}, {blocks{{Size: 1, Align: 13}}, 0, nil, 0, api.ErrArg}, {blocks{{Size: 1, Align: 1}, {Size: math.MaxInt, Align: 1}}, 0, nil, 0, api.ErrArg}, {blocks{{Size: 1, Align: math.MinInt}}, most, nil, 0, api.ErrArg},
		{make(blocks, 257), 0, nil, 0, api.ErrLimit}, {make(blocks, 257), most, nil, 0, api.ErrLimit}, {append(make(blocks, 256), api.Block{Size: -1}), most, nil, 0, api.ErrArg}, {make(blocks, 256), 5, slices.Repeat([]uint64{5}, 256), 5, api.OK},
	} {
		given := slices.Clone(x.l)
		if at, end, e := place.Lay(x.l, x.base); !slices.Equal(at, x.at) || end != x.end || e != x.e || !slices.Equal(given, x.l) {
			t.Errorf("Lay: %d: %v, %d, %d", k, at, end, e)
		}
	}
}

func TestFarNear(t *testing.T) {
	for _, x := range []struct {
		from, to uint64
		far      int
	}{{0, 0, 0}, {5, 3, -2}, {3, 5, 2}, {most, 0, 1}, {0, most, -1}, {0, 1<<63 - 1, math.MaxInt64}, {0, 1 << 63, math.MinInt64}, {1, 1 << 63, math.MaxInt64}} {
		if f := place.Far(x.from, x.to); f != x.far {
			t.Errorf("Far(%d, %d): %d", x.from, x.to, f)
		}
	}
	for _, x := range []struct {
		from, to uint64
		reach    int
		want     bool
	}{
		{100, 108, 12, true}, {100, 112, 12, false}, {100, 109, 12, false}, {100, 88, 12, true}, {100, 87, 12, false}, {100, 100, 4, true}, {100, 100, 0, false}, {100, 98, 2, true}, {100, 99, 2, false}, {100, 100, 3, false}, {100, 97, 3, true},
		{100, 100, -4, false}, {100, 100, math.MinInt, false}, {0, 1 << 63, math.MaxInt, false}, {0, 1<<63 + 1, math.MaxInt, true}, {0, math.MaxInt64 - 4, math.MaxInt, true}, {0, math.MaxInt64 - 3, math.MaxInt, false}, {most, 7, 12, true}, {most, 8, 12, false}, {0, most - 7, 8, true}, {0, most - 8, 8, false},
	} {
		if n := place.Near(x.from, x.to, x.reach); n != x.want {
			t.Errorf("Near(%d, %d, %d): %v", x.from, x.to, x.reach, n)
		}
	}
}

// TestFollows holds P24.4.
func TestFollows(t *testing.T) {
	r := rand.New(rand.NewSource(1))
	for range 500 {
		base := r.Uint64() >> (2 + r.Intn(60))
		if base > api.MaxPlace {
			continue
		}
		var l []api.Block
		for range r.Intn(20) {
			l = append(l, api.Block{Size: r.Intn(40), Align: r.Intn(6)})
		}
		at, end, e := place.Lay(l, base)
		ahead := base
		for k, b := range l {
			if at[k] < ahead || at[k]-ahead >= 1<<b.Align || at[k]%(1<<b.Align) != 0 || e != api.OK {
				t.Fatalf("Lay(%v, %d): %v, %d", l, base, at, e)
			}
			if up, _ := place.Up(ahead, b.Align); up != at[k] {
				t.Fatalf("Up(%d, %d): %d", ahead, b.Align, up)
			}
			if again, _ := place.Up(at[k], b.Align); again != at[k] {
				t.Fatalf("Up(%d, %d): %d", at[k], b.Align, again)
			}
			ahead = at[k] + uint64(b.Size)
		}
		cut := r.Intn(len(l) + 1)
		one, middle, _ := place.Lay(l[:cut], base)
		two, last, _ := place.Lay(l[cut:], middle)
		if !slices.Equal(append(one, two...), at) || last != end || end != ahead {
			t.Fatalf("Lay(%v, %d) in two parts: %v, %v, %d, %d", l, base, one, two, last, end)
		}
	}
}
