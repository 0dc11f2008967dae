package drive_test

import (
	"fmt"
	"math"
	"strings"
	"testing"

	"cleat/api"
	"cleat/asm"
	"cleat/drive"
	"cleat/graph"
	"cleat/image"
	"cleat/link"
	"cleat/model"
)

func options() api.Options {
	return api.Options{Text: 65536, Data: 33554432, Stack: 67108864, Reach: 134217724}
}

func lines(l ...string) string { return strings.Join(l, "\n") }

func seven() string {
	return lines(".global main", ".text t", "main: movz x0, #7", "svc #1", "svc #0")
}

// count counts down from 5, by a text of its own, and tells each number.
func count() []string {
	return []string{
		lines(".global main", ".text t", "main: ldr x1, =n", "ldr x0, [x1]", "1: bl tell", "sub x0, x0, #1", "cbnz x0, 1b", "svc #0"),
		lines(".global tell", ".text t", "tell: svc #1", "ret", ".global n", ".data d", ".align 3", "n: .quad 5"),
	}
}

func TestDo(t *testing.T) {
	for k, x := range []struct {
		l    []string
		n    int
		want string
	}{
		{[]string{seven()}, 100, "7\nhalt 7\n"}, {[]string{seven()}, 3, "7\nhalt 7\n"}, {[]string{seven()}, 2, "7\nmore\n"}, {[]string{seven()}, 0, "more\n"}, {[]string{seven()}, -1, "error 1\n"}, {[]string{seven()}, 100001, "error 1\n"},
		{count(), 100, "5\n4\n3\n2\n1\nhalt 0\n"}, {count(), 10, "5\n4\nmore\n"},
		{[]string{lines(".global main", ".text t", "main: movz x0, #9", "svc #1", "svc #2")}, 9, "9\nerror 10\n"}, {[]string{lines(".global main", ".text t", "main: nop")}, 9, "error 4\n"}, {[]string{lines(".global main", ".text t", "main:")}, 9, "error 4\n"},
		{[]string{lines(".global main", ".text t", "main: sub sp, sp, #16", "str x30, [sp, #8]", "ldr x0, [sp, #8]", "svc #0")}, 9, "halt 0\n"},
	} {
		trace, w := drive.Do(x.l, "main", options(), x.n)
		if got := drive.Told(trace); got != x.want || w != (api.Where{}) {
			t.Errorf("Do: %d: %q, %v", k, got, w)
		}
	}
}

func TestTold(t *testing.T) {
	for _, x := range []struct {
		t    api.Trace
		want string
	}{
		{api.Trace{}, "more\n"}, {api.Trace{Told: []uint64{0, math.MaxUint64}, Steps: 9}, "0\n18446744073709551615\nmore\n"}, {api.Trace{Halted: true, Code: math.MaxUint64}, "halt 18446744073709551615\n"}, {api.Trace{E: 11}, "error 11\n"}, {api.Trace{E: -5}, "error -5\n"}, {api.Trace{E: math.MinInt}, "error -9223372036854775808\n"}, {api.Trace{E: 77}, "error 77\n"}, {api.Trace{Told: []uint64{3}, Halted: true, Code: 4, E: 5}, "3\nhalt 4\nerror 5\n"}, {api.Trace{Code: 9}, "more\n"},
	} {
		if got := drive.Told(x.t); got != x.want {
			t.Errorf("Told(%v): %q", x.t, got)
		}
	}
}

func TestWrong(t *testing.T) {
	bad := options()
	bad.Reach = 5
	start := lines(".global main", ".text t", "main: nop") + "\n"
	for k, x := range []struct {
		l     []string
		entry string
		o     api.Options
		w     api.Where
	}{
		{[]string{start, start + "zzz", "zzz"}, "main", options(), api.Where{Code: api.ErrName, Step: 1, At: 1, Line: 4}},
		{[]string{start + "b 1f", "zzz"}, "main", bad, api.Where{Code: api.ErrName, Step: 1, At: 0, Line: 4}},
		{[]string{start, strings.Repeat("\n", 20001)}, "main", options(), api.Where{Code: api.ErrLimit, Step: 1, At: 1}},
		{append([]string{"zzz"}, make([]string, 8)...), "main", bad, api.Where{Code: api.ErrLimit, Step: 1}},
		{append([]string{start}, make([]string, 7)...), "main", options(), api.Where{}},
		{[]string{start}, "main", bad, api.Where{Code: api.ErrArg, Step: 2}},
		{[]string{start}, "q", options(), api.Where{Code: api.ErrEntry, Step: 2}},
		{nil, "main", options(), api.Where{Code: api.ErrEntry, Step: 2}},
		{[]string{"", start, start}, "main", options(), api.Where{Code: api.ErrTwice, Step: 2, At: 2}},
		{[]string{start, ".text t\nq: bl q\nbl r"}, "main", options(), api.Where{Code: api.ErrName, Step: 2, At: 1, Line: 1}},
		{[]string{"", start + "x: nop\nbl x+1"}, "main", options(), api.Where{Code: api.ErrAlign, Step: 2, At: 1, Line: 1}},
		{[]string{start + "y: cbz x1, z\n.data d\nz:"}, "main", options(), api.Where{Code: api.ErrRange, Step: 2, Line: 2}},
	} {
		objects, a := drive.Objects(x.l)
		img, b := drive.Build(x.l, x.entry, x.o)
		s, c := drive.Make(x.l, x.entry, x.o)
		trace, d := drive.Do(x.l, x.entry, x.o, 5)
		want := x.w
		if want.Step == 2 {
			want = api.Where{}
		}
		if a != want || want.Code != api.OK && len(objects) != 0 || want.Code == api.OK && len(objects) != len(x.l) {
			t.Errorf("Objects: %d: %v, %v", k, objects, a)
		}
		if b != x.w || c != x.w || d != x.w {
			t.Errorf("%d: %v, %v, %v, not %v", k, b, c, d, x.w)
		}
		if x.w.Code != api.OK && (fmt.Sprint(img) != fmt.Sprint(api.Image{}) || s != "" || fmt.Sprint(trace) != fmt.Sprint(api.Trace{})) {
			t.Errorf("%d: beside an error: %v, %q, %v", k, img, s, trace)
		}
	}
}

// TestSteps holds that each call is those of the layers below, one behind the other.
func TestSteps(t *testing.T) {
	for _, l := range [][]string{{seven()}, count(), {lines(".weak main", ".text t", "main: svc #0"), lines(".global main", ".text t", "main: adr x0, main", "svc #1", "svc #0")}} {
		objects, w := drive.Objects(l)
		for k, s := range l {
			if o, _ := asm.Assemble(s); fmt.Sprint(o) != fmt.Sprint(objects[k]) || w != (api.Where{}) {
				t.Errorf("Objects: %d: %v", k, objects[k])
			}
		}
		want, _ := link.Link(objects, "main", options())
		x, w := drive.Build(l, "main", options())
		if fmt.Sprint(x) != fmt.Sprint(want) || w != (api.Where{}) || !image.Is(x) {
			t.Errorf("Build: %v, %v", x, w)
		}
		bytes, _ := image.Put(want)
		if s, w := drive.Make(l, "main", options()); s != bytes || w != (api.Where{}) {
			t.Errorf("Make: %x, %v", s, w)
		}
		if trace, w := drive.Do(l, "main", options(), 50); fmt.Sprint(trace) != fmt.Sprint(image.Run(want, 50)) || w != (api.Where{}) {
			t.Errorf("Do: %v, %v", trace, w)
		}
		u, _ := graph.Flat(objects)
		sec, off, _ := graph.Entry(objects, "main")
		told := model.Run(u, sec, off, 50)
		if trace, _ := drive.Do(l, "main", options(), 200); told.E == api.OK && fmt.Sprint(trace.Told, trace.Code) != fmt.Sprint(told.Told, told.Code) {
			t.Errorf("Do: %v, not %v", trace, told)
		}
	}
}

// TestFollows holds P30.4: blank lines, and a text of nothing more, turn nothing but lines' numbers.
func TestFollows(t *testing.T) {
	l := count()
	s, w := drive.Make(l, "main", options())
	if w != (api.Where{}) {
		t.Fatalf("Make: %v", w)
	}
	blank := []string{strings.ReplaceAll(l[0], "\n", "\n\n  \n"), l[1] + "\n\n\n"}
	for k, more := range [][]string{blank, append(l[:2:2], ""), append(l[:2:2], "// nothing\n", "", "\n", " ", "", "")} {
		if again, w := drive.Make(more, "main", options()); again != s || w != (api.Where{}) {
			t.Errorf("%d: %v", k, w)
		}
	}
	wrong := []string{l[0], l[1] + "\nzzz"}
	if _, w := drive.Make(wrong, "main", options()); w.Line != 9 {
		t.Errorf("Make: %v", w)
	}
	wrong[1] = strings.ReplaceAll(wrong[1], "\n", "\n\n")
	if _, w := drive.Make(wrong, "main", options()); w != (api.Where{Code: api.ErrName, Step: 1, At: 1, Line: 17}) {
		t.Errorf("Make: %v", w)
	}
	x, _ := drive.Build(l, "main", options())
	x.Segs[0].Data = "x"
	if again, _ := drive.Make(l, "main", options()); again != s {
		t.Error("not the same again")
	}
}
