package graph_test

import (
	"fmt"
	"math"
	"math/rand"
	"slices"
	"strings"
	"testing"

	"cleat/api"
	"cleat/asm"
	"cleat/graph"
)

// bl is the word of bl with an Imm of 0.
const bl = "\x00\x00\x00\x94"

// unit is code that calls some units.
func unit(name string, calls ...int) api.Unit {
	u := api.Unit{Name: name, Kind: 1, Data: strings.Repeat(bl, len(calls))}
	for k, c := range calls {
		u.Refs = append(u.Refs, api.Ref{At: 4 * k, Kind: 2, Sec: c})
	}
	return u
}

func kept(u api.Unit) api.Unit {
	u.Keep = true
	return u
}

func TestIs(t *testing.T) {
	turned := func(f func(u *api.Unit)) []api.Unit {
		l := []api.Unit{unit("a", 1), unit("b", 0, 1)}
		f(&l[1])
		return l
	}
	for k, x := range []struct {
		u    []api.Unit
		want bool
	}{
		{nil, true}, {turned(func(*api.Unit) {}), true}, {turned(func(u *api.Unit) { u.Name = "a" }), true}, {turned(func(u *api.Unit) { u.Keep, u.Align = true, 12 }), true},
		{turned(func(u *api.Unit) { u.Name = "x1" }), false}, {turned(func(u *api.Unit) { u.Name = "" }), false}, {turned(func(u *api.Unit) { u.Kind = 0 }), false}, {turned(func(u *api.Unit) { u.Kind = 2 }), false}, {turned(func(u *api.Unit) { u.Align = 13 }), false}, {turned(func(u *api.Unit) { u.Data = "" }), false}, {turned(func(u *api.Unit) { u.Data += strings.Repeat("x", 4096) }), false},
		{turned(func(u *api.Unit) { u.Refs[1].Sec = 2 }), false}, {turned(func(u *api.Unit) { u.Refs[1].Sec = -1 }), false}, {turned(func(u *api.Unit) { u.Refs[1].Sec = math.MaxInt }), false}, {turned(func(u *api.Unit) { u.Refs[1].At = 0 }), false}, {turned(func(u *api.Unit) { u.Refs[1].Kind = 3 }), false}, {turned(func(u *api.Unit) { u.Refs[1].Kind = 1 }), false}, {turned(func(u *api.Unit) { u.Refs[1].Add = math.MinInt }), true},
		{slices.Repeat([]api.Unit{unit("a", 255)}, 256), true}, {slices.Repeat([]api.Unit{unit("a", 0)}, 257), false}, {slices.Repeat([]api.Unit{unit("a", 255)}, 255), false},
	} {
		if graph.Is(x.u) != x.want {
			t.Errorf("Is: %d: %v", k, !x.want)
		}
		r, e := graph.Reach(x.u, nil)
		if (e == api.OK) != x.want || !x.want && (len(r) != 0 || e != api.ErrArg) {
			t.Errorf("Reach: %d: %v, %d", k, r, e)
		}
		if len(x.u) > 0 {
			l, e := graph.Roots(x.u, 0)
			if (e == api.OK) != x.want || !x.want && (len(l) != 0 || e != api.ErrArg) {
				t.Errorf("Roots: %d: %v, %d", k, l, e)
			}
		}
	}
}

// objects assembles texts.
func objects(t *testing.T, texts ...string) []api.Object {
	t.Helper()
	var l []api.Object
	for _, s := range texts {
		o, f := asm.Assemble(s)
		if f.Code != api.OK {
			t.Fatalf("%q: %v", s, f)
		}
		l = append(l, o)
	}
	return l
}

func TestFlat(t *testing.T) {
	l := objects(t,
		".global m\n.text t, keep\nnop\nm: bl f+4\nl: b l\n.data d\n.align 3\n.quad w-3, m",
		"",
		".global f\n.text t\nf: bl g\n.weak w\n.rodata r\n.align 4\n.byte 1\nw: .byte 2\n.text z\n.global g\nnop\nnop\ng: ret")
	u, f := graph.Flat(l)
	want := []api.Unit{
		{Name: "t", Kind: 1, Keep: true, Data: l[0].Secs[0].Data, Refs: []api.Ref{{At: 4, Kind: 2, Sec: 2, Add: 4}, {At: 8, Kind: 2, Sec: 0, Add: 8}}},
		{Name: "d", Kind: 3, Align: 3, Data: l[0].Secs[1].Data, Refs: []api.Ref{{At: 0, Kind: 1, Sec: 3, Add: -2}, {At: 8, Kind: 1, Sec: 0, Add: 4}}},
		{Name: "t", Kind: 1, Data: bl, Refs: []api.Ref{{At: 0, Kind: 2, Sec: 4, Add: 8}}},
		{Name: "r", Kind: 2, Align: 4, Data: "\x01\x02"},
		{Name: "z", Kind: 1, Data: l[2].Secs[2].Data},
	}
	if fmt.Sprint(u) != fmt.Sprint(want) || f != (api.Fault{}) || !graph.Is(u) {
		t.Errorf("Flat: %v, %v", u, f)
	}
	for name, at := range map[string][2]int{"m": {0, 4}, "f": {2, 0}, "g": {4, 8}} {
		if s, off, e := graph.Entry(l, name); s != at[0] || off != at[1] || e != api.OK {
			t.Errorf("Entry(%q): %d, %d, %d", name, s, off, e)
		}
	}
	for _, name := range []string{"w", "l", "", "zz", "t"} {
		if s, off, e := graph.Entry(l, name); s != 0 || off != 0 || e != api.ErrEntry {
			t.Errorf("Entry(%q): %d, %d, %d", name, s, off, e)
		}
	}
	u[0].Refs[0].Add = 99
	if again, _ := graph.Flat(l); again[0].Refs[0].Add != 4 || l[0].Secs[0].Rels[0].Add != 4 {
		t.Error("what comes out shares its memory")
	}
}

func TestEntryFault(t *testing.T) {
	l := objects(t, ".global m\n.global o\n.global w\n.text t\n.byte 1,2\no: .byte 1,2\nm: nop\nw: ")
	if s, off, e := graph.Entry(l, "o"); s != 0 || off != 0 || e != api.ErrEntry {
		t.Errorf("Entry at an odd place: %d, %d, %d", s, off, e)
	}
	if s, off, e := graph.Entry(l, "w"); s != 0 || off != 8 || e != api.OK {
		t.Errorf("Entry behind: %d, %d, %d", s, off, e)
	}
	if s, off, e := graph.Entry(make([]api.Object, 9), "m"); s != 0 || off != 0 || e != api.ErrEntry {
		t.Errorf("Entry of too many: %d, %d, %d", s, off, e)
	}
	for k, x := range []struct {
		l []api.Object
		f api.Fault
	}{
		{make([]api.Object, 9), api.Fault{Code: api.ErrLimit}},
		{[]api.Object{{Syms: []api.Sym{{}}}}, api.Fault{Code: api.ErrArg}},
		{objects(t, ".text t\nbl q"), api.Fault{Code: api.ErrName}},
		{objects(t, ".global m\n.text t\nm:", ".text t\nbl q\n", ".global m\n.text t\nq: m:"), api.Fault{Code: api.ErrTwice, Obj: 2}},
		{objects(t, ".global m\n.text t\nnop\nm:", ".text t\nbl q\nbl m+9223372036854775803\nbl m+9223372036854775804\nq: bl m+9223372036854775805"), api.Fault{Code: api.ErrRange, Obj: 1, Sym: 1}},
		{objects(t, ".global m\n.text t\nnop\nm:", ".text t\nbl q\nbl m+9223372036854775803\nbl m-9223372036854775808\nq:"), api.Fault{}},
		{objects(t, ".text t\nnop\nx: bl x+9223372036854775804\n1: bl 1b+9223372036854775804"), api.Fault{Code: api.ErrRange, Obj: 0, Sym: 1}},
	} {
		if u, f := graph.Flat(x.l); f != x.f || f.Code != api.OK && len(u) != 0 {
			t.Errorf("Flat: %d: %v, %v", k, u, f)
		}
	}
}

func TestRootsReach(t *testing.T) {
	u := []api.Unit{unit("a", 2), unit("b", 0), unit("c"), kept(unit("d", 4, 4)), unit("e", 3), kept(unit("f"))}
	for _, x := range []struct {
		entry int
		want  []int
	}{{0, []int{0, 3, 5}}, {3, []int{3, 5}}, {4, []int{3, 4, 5}}, {5, []int{3, 5}}} {
		if l, e := graph.Roots(u, x.entry); !slices.Equal(l, x.want) || e != api.OK {
			t.Errorf("Roots(%d): %v, %d", x.entry, l, e)
		}
	}
	for _, entry := range []int{-1, 6, math.MaxInt, math.MinInt} {
		if l, e := graph.Roots(u, entry); len(l) != 0 || e != api.ErrArg {
			t.Errorf("Roots(%d): %v, %d", entry, l, e)
		}
		if l, e := graph.Reach(u, []int{0, entry}); len(l) != 0 || e != api.ErrArg {
			t.Errorf("Reach(%d): %v, %d", entry, l, e)
		}
	}
	if l, e := graph.Roots(nil, 0); len(l) != 0 || e != api.ErrArg {
		t.Errorf("Roots of none: %v, %d", l, e)
	}
	for _, x := range []struct {
		roots []int
		want  string
	}{{nil, "------"}, {[]int{0}, "+-+---"}, {[]int{1}, "+++---"}, {[]int{2, 2}, "--+---"}, {[]int{4}, "---++-"}, {[]int{5, 3, 1}, "++++++"}} {
		given := slices.Clone(x.roots)
		in, e := graph.Reach(u, x.roots)
		s := ""
		for _, yes := range in {
			s += map[bool]string{true: "+", false: "-"}[yes]
		}
		if s != x.want || e != api.OK || !slices.Equal(given, x.roots) {
			t.Errorf("Reach(%v): %s, %d", x.roots, s, e)
		}
	}
}

// TestFollows holds P21.4, by a way of reaching that goes round after round.
func TestFollows(t *testing.T) {
	r := rand.New(rand.NewSource(1))
	for range 300 {
		n := 1 + r.Intn(12)
		var u []api.Unit
		for k := range n {
			var calls []int
			for range r.Intn(3) {
				calls = append(calls, r.Intn(n))
			}
			u = append(u, unit(fmt.Sprint("u", k), calls...))
		}
		roots := []int{r.Intn(n), r.Intn(n)}
		in, _ := graph.Reach(u, roots)
		want := make([]bool, n)
		want[roots[0]], want[roots[1]] = true, true
		for range n {
			for k, x := range u {
				for _, ref := range x.Refs {
					want[ref.Sec] = want[ref.Sec] || want[k]
				}
			}
		}
		one, _ := graph.Reach(u, roots[:1])
		two, _ := graph.Reach(u, roots[1:])
		for k := range n {
			if in[k] != want[k] || in[k] != (one[k] || two[k]) {
				t.Fatalf("%v from %v: %v", u, roots, in)
			}
		}
	}
}
