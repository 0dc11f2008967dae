package link_test

import (
	"fmt"
	"math"
	"slices"
	"strings"
	"testing"

	"cleat/api"
	"cleat/asm"
	"cleat/code"
	"cleat/fix"
	"cleat/graph"
	"cleat/image"
	"cleat/link"
	"cleat/shrink"
	"cleat/veneer"
)

func options() api.Options {
	return api.Options{Text: 65536, Data: 33554432, Stack: 67108864, Reach: 8192}
}

func objects(t *testing.T, texts ...string) []api.Object {
	t.Helper()
	var l []api.Object
	for _, s := range texts {
		o, f := asm.Assemble(s)
		if f.Code != api.OK {
			t.Fatalf("%q: %v", s, f)
		}
		l = append(l, o)
	}
	return l
}

func lines(l ...string) string { return strings.Join(l, "\n") }

func word(i api.Inst) string {
	w, _ := code.Encode(i)
	return string([]byte{byte(w), byte(w >> 8), byte(w >> 16), byte(w >> 24)})
}

func show(x api.Image) string {
	return fmt.Sprintf("%d %d %v", x.Entry, x.Stack, append([]api.Region{}, x.Segs...))
}

func TestLink(t *testing.T) {
	svc, bl := word(api.Inst{Op: 37}), func(imm int) string { return word(api.Inst{Op: 30, Imm: imm}) }
	for k, x := range []struct {
		texts []string
		want  api.Image
		at    []uint64
	}{
		{[]string{lines(".global main", ".text t", "main: svc #0")}, api.Image{Entry: 65536, Stack: 67108864, Segs: []api.Region{{At: 65536, Kind: 1, Data: svc}}}, []uint64{65536}},
		{[]string{lines(".text a", ".byte 1,2,3", ".data e", ".global main", ".text t", "svc #0", "main: bl a1", ".text z", "a1: svc #0", ".byte 7"), "", lines(".data d, keep", ".align 3", ".quad main+1", ".rodata r, keep", ".byte 9", ".data s, keep", ".text u, keep", ".byte 5")},
			api.Image{Entry: 65540, Stack: 67108864, Segs: []api.Region{{At: 65536, Kind: 1, Data: svc + bl(4)}, {At: 65544, Kind: 1, Data: svc + "\x07"}, {At: 65552, Kind: 1, Data: "\x05"}, {At: 33554432, Kind: 2, Data: "\x09"}, {At: 33554440, Kind: 3, Data: "\x05\x00\x01\x00\x00\x00\x00\x00"}}},
			[]uint64{0, 0, 65536, 65544, 33554440, 33554432, 33554448, 65552}},
		{[]string{lines(".global main", ".text t", "main: bl f", "bl g", "svc #0", ".text f", "f: nop", "ret", ".text g", ".align 4", "g: nop", "ret", ".text h", "nop", "ret")},
			api.Image{Entry: 65536, Stack: 67108864, Segs: []api.Region{{At: 65536, Kind: 1, Data: bl(16) + bl(12) + svc}, {At: 65552, Kind: 1, Data: word(api.Inst{Op: 38}) + word(api.Inst{Op: 36, N: 30})}}},
			[]uint64{65536, 65552, 65552, 0}},
		{[]string{lines(".text f", "f: ret", ".text g", "g: ret", ".global main", ".text t", "main: bl g", "bl f", "svc #0")}, api.Image{Entry: 65540, Stack: 67108864, Segs: []api.Region{{At: 65536, Kind: 1, Data: word(api.Inst{Op: 36, N: 30})}, {At: 65540, Kind: 1, Data: bl(-4) + bl(-8) + svc}}}, []uint64{65536, 65536, 65540}},
		{[]string{lines(".global main", ".text t", "main:")}, api.Image{Entry: 65536, Stack: 67108864}, []uint64{65536}},
		{[]string{lines(".weak main", ".text t", "main: svc #0"), lines(".global main", ".text t", "nop", "main: svc #0")}, api.Image{Entry: 65540, Stack: 67108864, Segs: []api.Region{{At: 65536, Kind: 1, Data: word(api.Inst{Op: 38}) + svc}}}, []uint64{0, 65536}},
	} {
		l := objects(t, x.texts...)
		got, f := link.Link(l, "main", options())
		if show(got) != show(x.want) || f != (api.Fault{}) || !image.Is(got) {
			t.Errorf("Link: %d: %s, %v, not %s", k, show(got), f, show(x.want))
		}
		at, f := link.Map(l, "main", options())
		if !slices.Equal(at, x.at) || f != (api.Fault{}) {
			t.Errorf("Map: %d: %v, %v", k, at, f)
		}
	}
}

// TestOrder lays data ahead of code: segments rise by their places.
func TestOrder(t *testing.T) {
	o := options()
	o.Text, o.Data, o.Stack = 67108864, 33554432, 0
	l := objects(t, lines(".global main", ".text t", "main: adrp x1, d", "svc #0", ".data d, keep", "d: .byte 1"))
	x, f := link.Link(l, "main", o)
	want := api.Image{Entry: 67108864, Segs: []api.Region{{At: 33554432, Kind: 3, Data: "\x01"}, {At: 67108864, Kind: 1, Data: word(api.Inst{Op: 28, D: 1, Imm: -8192}) + word(api.Inst{Op: 37})}}}
	if show(x) != show(want) || f != (api.Fault{}) || !image.Is(x) {
		t.Errorf("Link: %s, %v", show(x), f)
	}
}

func TestFaults(t *testing.T) {
	start := lines(".global main", ".text t", "main: nop") + "\n"
	bad := options()
	bad.Stack = bad.Data
	for k, x := range []struct {
		l     []api.Object
		entry string
		o     api.Options
		f     api.Fault
	}{
		{objects(t, start), "main", bad, api.Fault{Code: api.ErrArg}},
		{objects(t, start+"bl q"), "zz", bad, api.Fault{Code: api.ErrArg}},
		{make([]api.Object, 9), "main", bad, api.Fault{Code: api.ErrArg}},
		{make([]api.Object, 9), "main", options(), api.Fault{Code: api.ErrLimit}},
		{[]api.Object{{Syms: []api.Sym{{}}}}, "main", options(), api.Fault{Code: api.ErrArg}},
		{objects(t, start+"bl q"), "zz", options(), api.Fault{Code: api.ErrName, Sym: 1}},
		{objects(t, start, start), "zz", options(), api.Fault{Code: api.ErrTwice, Obj: 1}},
		{objects(t, start+".text z\nnop\nq: bl q+9223372036854775807"), "zz", options(), api.Fault{Code: api.ErrRange, Sym: 1}},
		{objects(t, start+"bl main+9223372036854775807"), "zz", options(), api.Fault{Code: api.ErrEntry}},
		{objects(t, start), "zz", options(), api.Fault{Code: api.ErrEntry}},
		{objects(t, start), "", options(), api.Fault{Code: api.ErrEntry}},
		{objects(t, start+".data d\nd:.global d"), "d", options(), api.Fault{Code: api.ErrEntry}},
		{objects(t, start+".byte 1\nd:.global d"), "d", options(), api.Fault{Code: api.ErrEntry}},
		{nil, "main", options(), api.Fault{Code: api.ErrEntry}},
		{objects(t, start+"x: nop\nbl x+1"), "main", options(), api.Fault{Code: api.ErrAlign, Sym: 1}},
		{objects(t, start+"bl f\nf: adr x1, 1f\n adr x1, d\n1: .data d\nd: .byte 1"), "main", options(), api.Fault{Code: api.ErrRange, Sym: 3}},
		{objects(t, ".data x\n", ".text a\n.global q\nq: bl r\nr: b.eq d\n.data e\n.quad d\n.data d\nd: .byte 1\n", start+"bl q\n"), "main", options(), api.Fault{Code: api.ErrRange, Obj: 1, Sym: 2}},
		{objects(t, start+"ldr x1, [x2, :lo12:d+4]\n.data d\n.align 3\nd: .quad 1"), "main", options(), api.Fault{Code: api.ErrAlign, Sym: 1}},
		{objects(t, start+"cbz x1, d\n.data d\nd: .quad 1"), "main", options(), api.Fault{Code: api.ErrRange, Sym: 1}},
		{objects(t, start+"bl d\n.data d\nd: .quad 1"), "main", options(), api.Fault{}},
		{objects(t, start+"bl far\nbl z1\n.text z\nz1: nop\n.global far\nfar: bl z1+9223372036854775804"), "main", options(), api.Fault{Code: api.ErrRange, Sym: 2}},
		{objects(t, start+".text z\nbl main+1\ncbz x1, d+1\n.data d\nd:"), "main", options(), api.Fault{}},
	} {
		img, f := link.Link(x.l, x.entry, x.o)
		at, g := link.Map(x.l, x.entry, x.o)
		if f != x.f || g != x.f || f.Code != api.OK && (show(img) != show(api.Image{}) || len(at) != 0) {
			t.Errorf("Link: %d: %v, %v, not %v; %s, %v", k, f, g, x.f, show(img), at)
		}
	}
}

// far is a program whose call goes by a veneer: from t over big code to z.
func far(t *testing.T) []api.Object {
	big := ".space 4000\n"
	return objects(t, lines(".global main", ".text t", "main: bl f", "svc #1", "bl f+4", "bl g", "svc #0", ".byte 1,2,3", ".text p", big, "p: ret", ".text q", big, "q: nop", "nop", ".text r", big, "r: nop", "nop", "nop", ".text z", "f: movz x0, #7", "ret", ".text y", "g: b p", ".data k, keep", ".align 3", ".quad q, r"))
}

func TestVeneers(t *testing.T) {
	l := far(t)
	x, f := link.Link(l, "main", options())
	if f != (api.Fault{}) || !image.Is(x) {
		t.Fatalf("Link: %v", f)
	}
	seg := x.Segs[0]
	if len(seg.Data) != 24+3*12 || seg.Data[20:24] != "\x01\x02\x03\x00" {
		t.Errorf("the segment with veneers: %x", seg.Data)
	}
	at, _ := link.Map(l, "main", options())
	for k, to := range []uint64{at[4], at[4] + 4, at[5]} {
		ven := 65536 + 24 + 12*uint64(k)
		want, _ := veneer.Code(ven, to)
		if got := seg.Data[24+12*k : 36+12*k]; got != want {
			t.Errorf("veneer %d: %x, not %x", k, got, want)
		}
		place := []int{0, 8, 12}[k]
		if goal, e := fix.Goal(api.RelCall, seg.Data[place:place+4], 65536+uint64(place)); goal != ven || e != api.OK {
			t.Errorf("call %d: %d, %d, not %d", k, goal, e, ven)
		}
	}
	if trace := image.Run(x, 1000); fmt.Sprint(trace.Told) != "[7]" || !trace.Halted || trace.Code != 7 || trace.E != api.OK {
		t.Errorf("Run: %v", trace)
	}
}

// parts are the units of objects, what is left of them, and their plan.
func parts(t *testing.T, l []api.Object) ([]api.Unit, api.Kept, api.Plan) {
	t.Helper()
	u, _ := graph.Flat(l)
	sec, _, _ := graph.Entry(l, "main")
	k, _ := shrink.Shrink(u, sec)
	p, e := veneer.Plan(u, k, options())
	if e != api.OK {
		t.Fatalf("Plan: %d", e)
	}
	return u, k, p
}

func TestBytes(t *testing.T) {
	l := far(t)
	u, k, p := parts(t, l)
	x, _ := link.Link(l, "main", options())
	for n, at := range k.Live {
		s, ref, e := link.Bytes(u, k, p, at)
		if ref != -1 || e != api.OK {
			t.Errorf("Bytes(%d): %d, %d", at, ref, e)
		}
		for _, g := range x.Segs {
			if g.At == p.At[n] && g.Data != s {
				t.Errorf("Bytes(%d): %x, not %x", at, s, g.Data)
			}
		}
	}
	p.At = slices.Clone(p.At)
	p.At[0] += 4096 * 4
	s, _, e := link.Bytes(u, k, p, 0)
	if want, _ := veneer.Code(p.VenAt[1], p.At[slices.Index(k.Live, 4)]+4); s[36:48] != want || e != api.OK {
		t.Errorf("Bytes of a plan with other places: %x, %d", s, e)
	}
}

func TestBytesWrong(t *testing.T) {
	u, k, p := parts(t, far(t))
	turned := func(f func(p *api.Plan)) api.Plan {
		q := p
		q.At, q.VenAt, q.Vens = slices.Clone(p.At), slices.Clone(p.VenAt), slices.Clone(p.Vens)
		f(&q)
		return q
	}
	other := k
	other.Live = k.Live[1:]
	z := slices.Index(k.Live, 4)
	for n, x := range []struct {
		k   api.Kept
		p   api.Plan
		at  int
		ref int
		e   api.Errno
	}{
		{k, turned(func(q *api.Plan) { q.Rounds = math.MinInt }), 0, -1, api.OK},
		{k, p, -1, -1, api.ErrArg}, {k, p, len(u), -1, api.ErrArg}, {k, p, math.MaxInt, -1, api.ErrArg}, {other, p, 1, -1, api.ErrArg}, {api.Kept{}, api.Plan{}, 0, -1, api.ErrArg},
		{k, turned(func(q *api.Plan) { q.At = q.At[1:] }), 0, -1, api.ErrArg}, {k, turned(func(q *api.Plan) { q.At = append(q.At, 0) }), 0, -1, api.ErrArg}, {k, turned(func(q *api.Plan) { q.VenAt = q.VenAt[1:] }), 0, -1, api.ErrArg}, {k, turned(func(q *api.Plan) { q.Vens = q.Vens[1:] }), 0, -1, api.ErrArg}, {k, turned(func(q *api.Plan) { q.Vens[1] = q.Vens[0] }), 0, -1, api.ErrArg}, {k, turned(func(q *api.Plan) { q.Vens[1].Sec = 99 }), 0, -1, api.ErrArg}, {k, turned(func(q *api.Plan) { q.Vens[1].To = -1 }), 0, -1, api.ErrArg},
		{k, turned(func(q *api.Plan) { q.VenAt[1]++ }), 0, 1, api.ErrAlign}, {k, turned(func(q *api.Plan) { q.VenAt[1] += 1 << 40 }), 0, 1, api.ErrRange}, {k, turned(func(q *api.Plan) { q.At[0]++ }), 0, 0, api.ErrAlign}, {k, turned(func(q *api.Plan) { q.At[0] += 1 << 40 }), 0, 0, api.ErrRange},
		{k, turned(func(q *api.Plan) { q.At[z] += 1 << 40 }), 0, 0, api.ErrRange}, {k, turned(func(q *api.Plan) { q.At[z] += 1 << 40 }), 1, -1, api.OK},
		{k, turned(func(q *api.Plan) { q.Vens[2].Add = 1 << 50 }), 0, -1, api.ErrRange}, {k, turned(func(q *api.Plan) { q.Vens, q.VenAt = append(q.Vens, api.Veneer{Sec: 0, To: 0}), append(q.VenAt, 6) }), 0, -1, api.ErrAlign}, {k, turned(func(q *api.Plan) { q.VenAt[2] += 1 << 40 }), 0, 2, api.ErrRange},
	} {
		s, ref, e := link.Bytes(u, x.k, x.p, x.at)
		if ref != x.ref || e != x.e || e != api.OK && s != "" {
			t.Errorf("Bytes: %d: %d bytes, %d, %d, not %d, %d", n, len(s), ref, e, x.ref, x.e)
		}
	}
}

// TestFollows holds P28.4: relocations lead where their symbols stand, and a section that is not needed plays no part.
func TestFollows(t *testing.T) {
	text := lines(".global main", ".text t", "main: adrp x1, v", "add x1, x1, :lo12:v", "ldr x0, [x1, :lo12:w]", "ldrb x2, [x1, :lo12:v+3]", "adr x3, 1f", "ldr x4, =v+8", "cbz x4, 1f", "b.ne main", "bl g", "1: svc #0", ".data d", ".align 3", ".byte 1,2", "v: .space 6", "w: .quad main, 1b-4", ".rodata c", ".quad v", ".text g", "g: ret")
	l := objects(t, text)
	x, f := link.Link(l, "main", options())
	if f != (api.Fault{}) {
		t.Fatalf("Link: %v", f)
	}
	at, _ := link.Map(l, "main", options())
	for k, s := range l[0].Secs {
		if s.Name == "c" {
			if at[k] != 0 {
				t.Errorf("what is not needed stands at %d", at[k])
			}
			continue
		}
		n := slices.IndexFunc(x.Segs, func(r api.Region) bool { return r.At == at[k] })
		for _, r := range s.Rels {
			size := 4
			if r.Kind == api.RelAbs64 {
				size = 8
			}
			y := l[0].Syms[r.Sym]
			to := at[y.Sec] + uint64(y.Off+r.Add)
			goal, e := fix.Goal(r.Kind, x.Segs[n].Data[r.At:r.At+size], at[k]+uint64(r.At))
			if r.Kind == api.RelPage {
				to &^= 4095
			}
			if r.Kind < api.RelAdd && (goal != to || e != api.OK) {
				t.Errorf("%v of %s leads to %d, not %d", r, s.Name, goal, to)
			}
		}
	}
	more := objects(t, text, lines(".text u", "nop", "bl main", "adr x1, u1", ".data v", "u1: .quad main"))
	if y, f := link.Link(more, "main", options()); show(y) != show(x) || f != (api.Fault{}) {
		t.Errorf("a section more: %s, %v", show(y), f)
	}
}
