package fold_test

import (
	"math/rand"
	"slices"
	"strings"
	"testing"

	"cleat/api"
	"cleat/fold"
)

const (
	bl  = "\x00\x00\x00\x94"
	b   = "\x00\x00\x00\x14"
	nop = "\x1f\x20\x03\xd5"
)

// unit is code with some bytes behind, that calls some units.
func unit(tail string, calls ...int) api.Unit {
	u := api.Unit{Name: "u", Kind: 1, Data: strings.Repeat(bl, len(calls)) + tail}
	for k, c := range calls {
		u.Refs = append(u.Refs, api.Ref{At: 4 * k, Kind: 2, Sec: c})
	}
	return u
}

func of(kind int, u api.Unit) api.Unit {
	u.Kind = kind
	return u
}

func all(n int) []bool { return slices.Repeat([]bool{true}, n) }

func TestAlike(t *testing.T) {
	base := unit(nop, 3, 4)
	turned := func(f func(u *api.Unit)) api.Unit {
		u := base
		u.Refs = slices.Clone(u.Refs)
		f(&u)
		return u
	}
	for k, x := range []struct {
		u    api.Unit
		want bool
	}{
		{base, true}, {turned(func(u *api.Unit) { u.Name, u.Align, u.Keep = "z", 5, true }), true}, {turned(func(u *api.Unit) { u.Refs[0].Sec, u.Refs[1].Sec = 9, -7 }), true},
		{turned(func(u *api.Unit) { u.Kind = 2 }), false}, {turned(func(u *api.Unit) { u.Kind = 3 }), false}, {turned(func(u *api.Unit) { u.Data += "x" }), false}, {turned(func(u *api.Unit) { u.Data = b + u.Data[4:] }), false},
		{turned(func(u *api.Unit) { u.Refs[1].At = 8 }), false}, {turned(func(u *api.Unit) { u.Refs[1].Kind = 3 }), false}, {turned(func(u *api.Unit) { u.Refs[1].Add = 1 }), false}, {turned(func(u *api.Unit) { u.Refs = u.Refs[:1] }), false}, {turned(func(u *api.Unit) { u.Refs = nil }), false}, {turned(func(u *api.Unit) { u.Refs[0], u.Refs[1] = u.Refs[1], u.Refs[0] }), false},
	} {
		if fold.Alike(base, x.u) != x.want || fold.Alike(x.u, base) != x.want {
			t.Errorf("Alike: %d: %v", k, !x.want)
		}
	}
	d := of(2, unit("x"))
	if fold.Alike(d, d) || fold.Alike(api.Unit{}, api.Unit{}) || !fold.Alike(unit(""), unit("")) {
		t.Error("Alike of what is no code, or empty")
	}
}

func TestFold(t *testing.T) {
	zeros := strings.Repeat("\x00", 8)
	lit := func(kind, to, add int) api.Unit {
		return api.Unit{Name: "d", Kind: kind, Data: zeros, Refs: []api.Ref{{Kind: 1, Sec: to, Add: add}}}
	}
	kept := unit(nop)
	kept.Keep, kept.Align, kept.Name = true, 5, "k"
	for k, x := range []struct {
		u     []api.Unit
		in    []bool
		want  []int
		saved int
	}{
		{nil, nil, nil, 0},
		{[]api.Unit{unit(nop, 2), unit(nop, 3), unit("q"), unit("q")}, all(4), []int{0, 0, 2, 2}, 9},
		{[]api.Unit{unit("", 1), unit("", 0)}, all(2), []int{0, 0}, 4},
		{[]api.Unit{unit("", 1), unit("", 2), unit("", 0)}, all(3), []int{0, 0, 0}, 8},
		{[]api.Unit{unit("", 1), unit("", 2), unit("")}, all(3), []int{0, 1, 2}, 0},
		{[]api.Unit{unit("", 2), unit("", 3), unit("p"), unit("q")}, all(4), []int{0, 1, 2, 3}, 0},
		{[]api.Unit{unit("", 2), unit("", 2), unit("p"), unit("q")}, all(4), []int{0, 0, 2, 3}, 4},
		{[]api.Unit{unit("", 1), unit("", 2), unit("", 3), unit("", 3), unit("", 0)}, all(5), []int{0, 0, 0, 0, 0}, 16},
		{[]api.Unit{unit("", 1), unit("", 2), unit("", 3), unit("z")}, all(4), []int{0, 1, 2, 3}, 0},
		{[]api.Unit{of(2, unit("p")), of(2, unit("p")), of(3, unit("p")), unit("p"), unit("p")}, all(5), []int{0, 1, 2, 3, 3}, 1},
		{[]api.Unit{unit(nop), kept, unit(nop), kept}, all(4), []int{0, 0, 0, 0}, 12},
		{[]api.Unit{unit(nop), unit(nop), unit(nop)}, []bool{false, true, true}, []int{-1, 1, 1}, 4},
		{[]api.Unit{unit(nop), unit(nop)}, []bool{false, false}, []int{-1, -1}, 0},
		{[]api.Unit{unit("", 2), unit("", 3), unit("p"), unit("p")}, []bool{true, true, false, false}, []int{0, 1, -1, -1}, 0},
		{[]api.Unit{unit("", 2), unit("", 2), unit("p"), unit("p")}, []bool{true, true, false, true}, []int{0, 0, -1, 3}, 4},
		{[]api.Unit{lit(1, 2, 0), lit(1, 3, 0), unit("p"), unit("p")}, all(4), []int{0, 0, 2, 2}, 9},
		{[]api.Unit{lit(1, 2, 0), lit(1, 2, 4), unit("p")}, all(3), []int{0, 1, 2}, 0},
		{[]api.Unit{lit(1, 2, 0), lit(1, 3, 0), of(3, unit("p")), of(3, unit("p"))}, all(4), []int{0, 1, 2, 3}, 0},
		{[]api.Unit{lit(3, 0, 0), unit("", 2), unit("", 1)}, all(3), []int{0, 1, 1}, 4},
		{[]api.Unit{unit("", 1, 2), unit("p"), unit("q"), unit("", 2, 1)}, all(4), []int{0, 1, 2, 3}, 0},
		{[]api.Unit{unit(""), unit("")}, all(2), []int{0, 0}, 0},
	} {
		given := slices.Clone(x.in)
		parts, e := fold.Fold(x.u, x.in)
		n, f := fold.Saved(x.u, x.in)
		if !slices.Equal(parts, x.want) || e != api.OK || n != x.saved || f != api.OK || !slices.Equal(given, x.in) {
			t.Errorf("Fold: %d: %v, %d; %d, %d", k, parts, e, n, f)
		}
	}
	for k, x := range []struct {
		u  []api.Unit
		in []bool
	}{{[]api.Unit{unit("", 1)}, all(1)}, {[]api.Unit{unit("", 0)}, all(2)}, {[]api.Unit{unit("", 0)}, nil}, {nil, all(1)}, {[]api.Unit{of(4, unit(""))}, all(1)}, {slices.Repeat([]api.Unit{unit("")}, 257), all(257)}} {
		parts, e := fold.Fold(x.u, x.in)
		n, f := fold.Saved(x.u, x.in)
		if len(parts) != 0 || e != api.ErrArg || n != 0 || f != api.ErrArg {
			t.Errorf("wrong units: %d: %v, %d; %d, %d", k, parts, e, n, f)
		}
	}
}

// good tells whether parts are a good partition.
func good(u []api.Unit, in []bool, parts []int) bool {
	for i := range u {
		for j := range u {
			if i == j || !in[i] || !in[j] || parts[i] != parts[j] {
				continue
			}
			if !fold.Alike(u[i], u[j]) {
				return false
			}
			for k := range u[i].Refs {
				p, q := u[i].Refs[k].Sec, u[j].Refs[k].Sec
				if p != q && (!in[p] || !in[q] || parts[p] != parts[q]) {
					return false
				}
			}
		}
	}
	return true
}

// partitions hands over all ways to part n things, each told by the least one of its part.
func partitions(n int, do func(parts []int)) {
	parts := make([]int, n)
	var next func(k int)
	next = func(k int) {
		if k == n {
			do(parts)
			return
		}
		for j := 0; j <= k; j++ {
			if j < k && parts[j] != j {
				continue
			}
			parts[k] = j
			next(k + 1)
		}
	}
	next(0)
}

// TestFollows holds P22.3 for small graphs: what is told is good, and each good partition is finer.
func TestFollows(t *testing.T) {
	r := rand.New(rand.NewSource(1))
	folded := 0
	for range 150 {
		n := 2 + r.Intn(4)
		var u []api.Unit
		var in []bool
		for range n {
			x := unit([]string{"", "", "p"}[r.Intn(3)], r.Intn(n))
			if r.Intn(3) == 0 {
				x = unit("", r.Intn(n), r.Intn(n))
			}
			if r.Intn(8) == 0 {
				x = of(3, unit("p"))
			}
			u = append(u, x)
			in = append(in, r.Intn(6) > 0)
		}
		parts, _ := fold.Fold(u, in)
		if !good(u, in, parts) {
			t.Fatalf("%v, %v: %v is not good", u, in, parts)
		}
		partitions(n, func(other []int) {
			if !good(u, in, other) {
				return
			}
			for i := range n {
				for j := range n {
					if in[i] && in[j] && other[i] == other[j] && parts[i] != parts[j] {
						t.Fatalf("%v, %v: %v is coarser than %v", u, in, other, parts)
					}
				}
			}
		})
		for k, at := range parts {
			if in[k] && at != k {
				folded++
			}
			if in[k] != (at >= 0) || at > k || at >= 0 && parts[at] != at {
				t.Fatalf("%v, %v: %v", u, in, parts)
			}
		}
		copied := append(slices.Clone(u), u[0])
		more, _ := fold.Fold(copied, append(slices.Clone(in), true))
		if in[0] && u[0].Kind == 1 && more[n] != more[0] {
			t.Fatalf("%v: a copy of 0 is not folded: %v", u, more)
		}
	}
	if folded < 20 {
		t.Errorf("only %d are folded", folded)
	}
}
