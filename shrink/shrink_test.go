package shrink_test

import (
	"fmt"
	"math"
	"math/rand"
	"slices"
	"strings"
	"testing"

	"cleat/api"
	"cleat/shrink"
)

const (
	bl  = "\x00\x00\x00\x94"
	nop = "\x1f\x20\x03\xd5"
)

// unit is code with some bytes behind, that calls some units.
func unit(name, tail string, calls ...int) api.Unit {
	u := api.Unit{Name: name, Kind: 1, Data: strings.Repeat(bl, len(calls)) + tail}
	for k, c := range calls {
		u.Refs = append(u.Refs, api.Ref{At: 4 * k, Kind: 2, Sec: c, Add: k})
	}
	return u
}

func data(kind int, name string, to ...int) api.Unit {
	u := api.Unit{Name: name, Kind: kind, Data: strings.Repeat("\x00", 8*len(to)) + "x"}
	for k, c := range to {
		u.Refs = append(u.Refs, api.Ref{At: 8 * k, Kind: 1, Sec: c})
	}
	return u
}

func kept(u api.Unit) api.Unit {
	u.Keep = true
	return u
}

func aligned(n int, u api.Unit) api.Unit {
	u.Align = n
	return u
}

func same(a, b api.Kept) bool {
	return slices.Equal(a.Rep, b.Rep) && slices.Equal(a.Live, b.Live) && slices.Equal(a.Align, b.Align)
}

func TestShrink(t *testing.T) {
	for k, x := range []struct {
		u     []api.Unit
		entry int
		want  api.Kept
		lost  []string
	}{
		{[]api.Unit{kept(data(3, "d")), unit("m", "", 2), unit("p", nop), unit("q", nop)}, 1, api.Kept{Rep: []int{0, 1, 2, -1}, Live: []int{1, 2, 0}, Align: []int{0, 0, 0}}, []string{"q"}},
		{[]api.Unit{data(3, "c"), data(2, "b"), unit("m", "", 0, 1, 3, 4), unit("p", nop), unit("q", nop), data(3, "e"), unit("e", "")}, 2, api.Kept{Rep: []int{0, 1, 2, 3, 3, -1, -1}, Live: []int{2, 3, 1, 0}, Align: []int{0, 0, 0, 0}}, []string{"e", "e"}},
		{[]api.Unit{aligned(1, unit("m", "", 1, 2, 3)), aligned(2, unit("p", nop)), aligned(5, unit("q", nop)), aligned(3, unit("r", nop)), aligned(9, unit("s", nop))}, 0, api.Kept{Rep: []int{0, 1, 1, 1, -1}, Live: []int{0, 1}, Align: []int{1, 5}}, []string{"s"}},
		{[]api.Unit{unit("a", nop), unit("b", nop)}, 1, api.Kept{Rep: []int{-1, 1}, Live: []int{1}, Align: []int{0}}, []string{"a"}},
		{[]api.Unit{kept(unit("a", nop)), unit("b", nop)}, 1, api.Kept{Rep: []int{0, 0}, Live: []int{0}, Align: []int{0}}, nil},
		{[]api.Unit{unit("a", "", 1), unit("b", "", 0)}, 1, api.Kept{Rep: []int{0, 0}, Live: []int{0}, Align: []int{0}}, nil},
		{[]api.Unit{data(2, "a")}, 0, api.Kept{Rep: []int{0}, Live: []int{0}, Align: []int{0}}, nil},
	} {
		got, e := shrink.Shrink(x.u, x.entry)
		lost, f := shrink.Lost(x.u, got)
		if !same(got, x.want) || e != api.OK || !shrink.Is(x.u, got) || !slices.Equal(lost, x.lost) || f != api.OK {
			t.Errorf("Shrink: %d: %v, %d; %v, %d", k, got, e, lost, f)
		}
	}
	u := []api.Unit{unit("a", "", 0)}
	for k, x := range []struct {
		u     []api.Unit
		entry int
	}{{u, -1}, {u, 1}, {u, math.MaxInt}, {nil, 0}, {[]api.Unit{unit("a", "", 1)}, 0}, {slices.Repeat(u, 257), 0}} {
		if got, e := shrink.Shrink(x.u, x.entry); !same(got, api.Kept{}) || e != api.ErrArg {
			t.Errorf("wrong: %d: %v, %d", k, got, e)
		}
	}
}

func TestIs(t *testing.T) {
	u := []api.Unit{unit("m", "", 1, 2), aligned(3, unit("p", nop)), unit("q", nop), data(3, "d"), unit("z", "z"), unit("n", "", 2, 1), unit("o", "", 4, 1)}
	for k, x := range []struct {
		k    api.Kept
		want bool
	}{
		{api.Kept{Rep: []int{0, 1, 2, -1, -1, -1, -1}, Live: []int{0, 1, 2}, Align: []int{0, 3, 0}}, true},
		{api.Kept{Rep: []int{0, 1, 1, -1, -1, -1, -1}, Live: []int{0, 1}, Align: []int{0, 3}}, true},
		{api.Kept{Rep: []int{0, 2, 2, -1, -1, -1, -1}, Live: []int{0, 2}, Align: []int{0, 3}}, true},
		{api.Kept{Rep: []int{0, 1, 1, -1, -1, 0, -1}, Live: []int{0, 1}, Align: []int{0, 3}}, true},
		{api.Kept{Rep: []int{5, 1, 1, -1, -1, 5, -1}, Live: []int{1, 5}, Align: []int{3, 0}}, true},
		{api.Kept{Rep: []int{-1, -1, -1, -1, -1, -1, -1}}, true},
		{api.Kept{Rep: []int{-1, -1, -1, 3, 4, -1, -1}, Live: []int{4, 3}, Align: []int{0, 0}}, true},
		{api.Kept{Rep: []int{0, 1, 2, -1, -1, 0, -1}, Live: []int{0, 1, 2}, Align: []int{0, 3, 0}}, false},
		{api.Kept{Rep: []int{0, 1, 1, -1, 4, -1, 0}, Live: []int{0, 1, 4}, Align: []int{0, 3, 0}}, false},
		{api.Kept{Rep: []int{0, 1, 1, -1, -1, -1, 6}, Live: []int{0, 1, 6}, Align: []int{0, 3, 0}}, false},
		{api.Kept{Rep: []int{0, 1, -1, -1, -1, -1, -1}, Live: []int{0, 1}, Align: []int{0, 3}}, false},
		{api.Kept{Rep: []int{0, 1, 1, 1, -1, -1, -1}, Live: []int{0, 1}, Align: []int{0, 3}}, false},
		{api.Kept{Rep: []int{0, 1, 1, -1, 1, -1, -1}, Live: []int{0, 1}, Align: []int{0, 3}}, false},
		{api.Kept{Rep: []int{0, 2, 1, -1, -1, -1, -1}, Live: []int{0}, Align: []int{0}}, false},
		{api.Kept{Rep: []int{0, 2, -1, -1, -1, -1, -1}, Live: []int{0}, Align: []int{0}}, false},
		{api.Kept{Rep: []int{0, 1, 1, -1, -1, -1, 7}, Live: []int{0, 1}, Align: []int{0, 3}}, false},
		{api.Kept{Rep: []int{0, 1, 1, -2, -1, -1, -1}, Live: []int{0, 1}, Align: []int{0, 3}}, false},
		{api.Kept{Rep: []int{0, 1, 1, math.MinInt, -1, -1, -1}, Live: []int{0, 1}, Align: []int{0, 3}}, false},
		{api.Kept{Rep: []int{0, 1, 1, -1, -1, -1}, Live: []int{0, 1}, Align: []int{0, 3}}, false},
		{api.Kept{Rep: []int{0, 1, 1, -1, -1, -1, -1, -1}, Live: []int{0, 1}, Align: []int{0, 3}}, false},
		{api.Kept{Rep: []int{0, 1, 1, -1, -1, -1, -1}, Live: []int{1, 0}, Align: []int{3, 0}}, false},
		{api.Kept{Rep: []int{0, 1, 1, -1, -1, -1, -1}, Live: []int{0, 1, 2}, Align: []int{0, 3, 0}}, false},
		{api.Kept{Rep: []int{0, 1, 1, -1, -1, -1, -1}, Live: []int{0, 1}, Align: []int{0, 2}}, false},
		{api.Kept{Rep: []int{0, 1, 1, -1, -1, -1, -1}, Live: []int{0, 1}, Align: []int{0}}, false},
		{api.Kept{Rep: []int{0, 1, 1, -1, -1, -1, -1}, Live: []int{0, 1}}, false},
		{api.Kept{Rep: []int{-1, -1, -1, 3, 4, -1, -1}, Live: []int{3, 4}, Align: []int{0, 0}}, false},
		{api.Kept{}, false},
	} {
		_, e := shrink.Refs(u, x.k, 1)
		lost, f := shrink.Lost(u, x.k)
		if shrink.Is(u, x.k) != x.want || !x.want && (e != api.ErrArg || f != api.ErrArg || len(lost) != 0) || x.want && f != api.OK {
			t.Errorf("Is: %d: %v; %d, %d", k, !x.want, e, f)
		}
	}
	if shrink.Is([]api.Unit{unit("x1", "")}, api.Kept{Rep: []int{0}, Live: []int{0}, Align: []int{0}}) || !shrink.Is(nil, api.Kept{}) {
		t.Error("Is of wrong units, or of none")
	}
}

func TestRefs(t *testing.T) {
	u := []api.Unit{unit("m", "", 2, 1, 3), unit("p", nop), unit("q", nop), data(3, "d", 2, 0)}
	k := api.Kept{Rep: []int{0, 1, 1, 3}, Live: []int{0, 1, 3}, Align: []int{0, 0, 0}}
	for at, want := range map[int][]api.Ref{0: {{At: 0, Kind: 2, Sec: 1}, {At: 4, Kind: 2, Sec: 1, Add: 1}, {At: 8, Kind: 2, Sec: 3, Add: 2}}, 1: nil, 3: {{At: 0, Kind: 1, Sec: 1}, {At: 8, Kind: 1, Sec: 0}}} {
		l, e := shrink.Refs(u, k, at)
		if !slices.Equal(l, want) || e != api.OK {
			t.Errorf("Refs(%d): %v, %d", at, l, e)
		}
		for j := range l {
			l[j].Sec = 99
		}
	}
	if u[0].Refs[0].Sec != 2 {
		t.Error("Refs shares its memory")
	}
	for _, at := range []int{2, 4, -1, math.MaxInt} {
		if l, e := shrink.Refs(u, k, at); len(l) != 0 || e != api.ErrArg {
			t.Errorf("Refs(%d): %v, %d", at, l, e)
		}
	}
}

// TestFollows holds P23.4: what is left, shrunk again, stays.
func TestFollows(t *testing.T) {
	r := rand.New(rand.NewSource(1))
	for range 300 {
		n := 1 + r.Intn(8)
		var u []api.Unit
		for k := range n {
			var to []int
			for range r.Intn(3) {
				to = append(to, r.Intn(n))
			}
			x := aligned(r.Intn(4), unit(fmt.Sprint("u", k), []string{"", "p"}[r.Intn(2)], to...))
			if r.Intn(3) == 0 {
				x = data(2+r.Intn(2), fmt.Sprint("d", k), to...)
			}
			x.Keep = r.Intn(6) == 0
			u = append(u, x)
		}
		entry := r.Intn(n)
		k, e := shrink.Shrink(u, entry)
		if e != api.OK || !shrink.Is(u, k) || k.Rep[entry] < 0 {
			t.Fatalf("Shrink(%v, %d): %v, %d", u, entry, k, e)
		}
		place := map[int]int{}
		for j, at := range k.Live {
			place[at] = j
		}
		var left []api.Unit
		for j, at := range k.Live {
			x := u[at]
			x.Align = k.Align[j]
			x.Refs, _ = shrink.Refs(u, k, at)
			for i := range x.Refs {
				x.Refs[i].Sec = place[x.Refs[i].Sec]
			}
			for i, rep := range k.Rep {
				x.Keep = x.Keep || rep == at && u[i].Keep
			}
			left = append(left, x)
		}
		again, e := shrink.Shrink(left, place[k.Rep[entry]])
		for j, at := range again.Rep {
			if at != j {
				t.Fatalf("%v shrunk again: %v", left, again)
			}
		}
		if e != api.OK || !slices.Equal(again.Align, k.Align) {
			t.Fatalf("%v shrunk again: %v, %d", left, again, e)
		}
		for j, x := range u {
			if (x.Keep || j == entry) && k.Rep[j] < 0 {
				t.Fatalf("the root %d is not left", j)
			}
		}
	}
}
