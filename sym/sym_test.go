package sym_test

import (
	"fmt"
	"testing"

	"cleat/api"
	"cleat/sym"
)

// object has two sections of 9 bytes, and symbols.
func object(l ...api.Sym) api.Object {
	return api.Object{Secs: []api.Sec{{Name: "a", Kind: 1, Data: "123456789"}, {Name: "b", Kind: 3, Data: "123456789"}}, Syms: l}
}

func here(name string, bind, sec, off int) api.Sym {
	return api.Sym{Name: name, Bind: bind, Sec: sec, Off: off}
}

func away(name string, bind int) api.Sym { return api.Sym{Name: name, Bind: bind, Sec: -1} }

func place(o, s, off int) api.Place { return api.Place{Obj: o, Sec: s, Off: off} }

func TestCheck(t *testing.T) {
	wrong := object(here("x", 4, 0, 0))
	for k, x := range []struct {
		l []api.Object
		e api.Errno
	}{
		{nil, api.OK}, {make([]api.Object, 8), api.OK}, {make([]api.Object, 9), api.ErrLimit}, {[]api.Object{object(), wrong}, api.ErrArg}, {append(make([]api.Object, 8), wrong), api.ErrLimit}, {[]api.Object{object(here("x", 2, 0, 0)), object(away("x", 3))}, api.OK},
	} {
		if e := sym.Check(x.l); e != x.e {
			t.Errorf("Check: %d: %d", k, e)
		}
		all, f := sym.Resolve(x.l)
		if f != (api.Fault{Code: x.e}) || x.e != api.OK && len(all) != 0 || x.e == api.OK && len(all) != len(x.l) {
			t.Errorf("Resolve: %d: %v", k, f)
		}
	}
	if p, ok := sym.Find([]api.Object{object(here("y", 2, 0, 5)), wrong}, "y"); p != (api.Place{}) || ok {
		t.Errorf("Find among wrong objects: %v, %v", p, ok)
	}
	if p, ok := sym.Find(append(make([]api.Object, 8), object(here("y", 2, 0, 5))), "y"); p != (api.Place{}) || ok {
		t.Errorf("Find among too many objects: %v, %v", p, ok)
	}
}

func TestResolve(t *testing.T) {
	for k, x := range []struct {
		l    []api.Object
		want [][]api.Place
		f    api.Fault
	}{
		{[]api.Object{object(here("a", 3, 0, 1)), object(here("a", 2, 1, 2))}, [][]api.Place{{place(1, 1, 2)}, {place(1, 1, 2)}}, api.Fault{}},
		{[]api.Object{object(here("a", 3, 0, 1)), object(here("a", 3, 1, 2)), object(away("a", 2))}, [][]api.Place{{place(0, 0, 1)}, {place(0, 0, 1)}, {place(0, 0, 1)}}, api.Fault{}},
		{[]api.Object{object(here("a", 1, 0, 1)), object(here("a", 1, 1, 2), here("", 1, 0, 3)), object(here("a", 2, 1, 9)), object(away("a", 3))}, [][]api.Place{{place(0, 0, 1)}, {place(1, 1, 2), place(1, 0, 3)}, {place(2, 1, 9)}, {place(2, 1, 9)}}, api.Fault{}},
		{[]api.Object{object(away("a", 2)), object(), object(here("b", 2, 0, 0), here("a", 2, 0, 5))}, [][]api.Place{{place(2, 0, 5)}, nil, {place(2, 0, 0), place(2, 0, 5)}}, api.Fault{}},
		{[]api.Object{object(here("a", 2, 0, 1)), object(here("b", 2, 0, 0), here("a", 2, 0, 1))}, nil, api.Fault{Code: api.ErrTwice, Obj: 1, Sym: 1}},
		{[]api.Object{object(away("z", 2), here("a", 2, 0, 1)), object(), object(here("b", 2, 0, 0), here("a", 2, 0, 1))}, nil, api.Fault{Code: api.ErrTwice, Obj: 2, Sym: 1}},
		{[]api.Object{object(here("a", 2, 0, 1)), object(away("a", 2)), object(here("a", 3, 0, 7))}, [][]api.Place{{place(0, 0, 1)}, {place(0, 0, 1)}, {place(0, 0, 1)}}, api.Fault{}},
		{[]api.Object{object(here("a", 1, 0, 1)), object(here("b", 2, 0, 0), away("a", 2))}, nil, api.Fault{Code: api.ErrName, Obj: 1, Sym: 1}},
		{[]api.Object{object(here("b", 2, 0, 0)), object(away("b", 3), away("c", 3))}, nil, api.Fault{Code: api.ErrName, Obj: 1, Sym: 1}},
		{[]api.Object{object(here("b", 2, 0, 0), here("c", 2, 0, 0)), object(here("c", 2, 0, 0), here("b", 2, 0, 0)), object(here("b", 2, 0, 0))}, nil, api.Fault{Code: api.ErrTwice, Obj: 1, Sym: 0}},
	} {
		all, f := sym.Resolve(x.l)
		if fmt.Sprint(all) != fmt.Sprint(x.want) || f != x.f {
			t.Errorf("Resolve: %d: %v, %v, not %v, %v", k, all, f, x.want, x.f)
		}
	}
}

func TestFind(t *testing.T) {
	l := []api.Object{object(here("w", 3, 0, 1), here("l", 1, 0, 2), away("g", 2), away("u", 3), here("", 1, 0, 3)), object(here("w", 3, 1, 3), here("g", 3, 1, 4)), object(here("w", 2, 1, 5), here("g", 3, 1, 6), here("l", 1, 1, 1)), object(here("w", 2, 0, 7))}
	for name, want := range map[string]api.Place{"w": place(2, 1, 5), "g": place(1, 1, 4)} {
		if p, ok := sym.Find(l, name); p != want || !ok {
			t.Errorf("Find(%q): %v, %v", name, p, ok)
		}
	}
	for _, name := range []string{"", "l", "u", "zz", "a", "W"} {
		if p, ok := sym.Find(l, name); p != (api.Place{}) || ok {
			t.Errorf("Find(%q): %v, %v", name, p, ok)
		}
	}
	if p, ok := sym.Find(nil, "a"); p != (api.Place{}) || ok {
		t.Errorf("Find among none: %v, %v", p, ok)
	}
}

// TestFollows holds P20.3: local symbols and an object more of other names turn nothing, and lists are apart.
func TestFollows(t *testing.T) {
	l := []api.Object{object(here("a", 2, 0, 1), away("b", 2), here("c", 1, 0, 3)), object(here("b", 3, 1, 2), away("a", 3))}
	one, f := sym.Resolve(l)
	more := append(append([]api.Object{}, l...), object(here("c", 1, 1, 1), here("d", 2, 0, 0), here("", 1, 0, 0)))
	three, h := sym.Resolve(more)
	if f != (api.Fault{}) || h != f || fmt.Sprint(one) != fmt.Sprint(three[:2]) {
		t.Errorf("one more: %v, %v; %v, %v", one, f, three, h)
	}
	one[0][0].Off = 99
	if again, _ := sym.Resolve(l); again[0][0].Off != 1 || again[1][1].Off != 1 {
		t.Errorf("lists are shared: %v", again)
	}
	for range 20 {
		if again, _ := sym.Resolve(more); fmt.Sprint(again) != fmt.Sprint(three) {
			t.Fatalf("not the same again: %v", again)
		}
	}
}
