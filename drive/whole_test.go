package drive_test

import (
	"fmt"
	"math/rand"
	"strings"
	"testing"

	"cleat/api"
	"cleat/asm"
	"cleat/bits"
	"cleat/code"
	"cleat/drive"
	"cleat/flag"
	"cleat/fold"
	"cleat/graph"
	"cleat/image"
	"cleat/line"
	"cleat/link"
	"cleat/mask"
	"cleat/obj"
	"cleat/show"
	"cleat/shrink"
	"cleat/sym"
	"cleat/veneer"
	"cleat/wire"
)

// TestExamples has the ten examples of the whole.
func TestExamples(t *testing.T) {
	one, _ := bits.Word(api.Field{At: 0, N: 5, V: 5}, api.Field{At: 16, N: 5, V: 3})
	n, r, s, _ := mask.Encode(6)
	three, _ := flag.Sub(5, 7)
	i, _, _ := line.Plain("add x1, x2, #3")
	four, _ := code.Encode(i)
	five, _ := show.Text(api.Inst{Op: 31, Cond: 1, Imm: -8})
	weak, _ := asm.Assemble(".weak a\n.text t\na: nop")
	strong, _ := asm.Assemble(".global a\n.text t\nnop\na: nop")
	seven, _ := sym.Find([]api.Object{weak, strong}, "a")
	twins, _ := asm.Assemble(".text a\na: bl b\n.text b\nb: bl a")
	u, _ := graph.Flat([]api.Object{twins})
	eight, _ := fold.Fold(u, []bool{true, true})
	nine, _ := veneer.Code(65536, 131076)
	lines, _ := show.List(65536, nine)
	trace, _ := drive.Do([]string{".global m\n.text t\nm: movz x0, #7\nsvc #1\nsvc #0"}, "m", options(), 9)
	got := fmt.Sprint(one, n, r, s, three, four, five, []byte(wire.Put(300)), seven, eight, lines, drive.Told(trace))
	want := fmt.Sprint(196613, 1, 63, 1, uint64(18446744073709551614), 2432699457, "b.ne #-8", []byte{172, 2}, api.Place{Obj: 1, Sec: 0, Off: 4}, []int{0, 0}, []string{"0x10000: adrp x16, #16", "0x10004: add x16, x16, #4", "0x10008: br x16"}, "7\nhalt 7\n")
	if got != want {
		t.Errorf("%s, not %s", got, want)
	}
}

// texts makes sections of code by chance that call one another, far away too, and data that holds places.
func texts(r *rand.Rand) []string {
	n := 2 + r.Intn(20)
	l := []string{".global f0\n.text t\nf0: bl f1\nbl f" + fmt.Sprint(r.Intn(n)) + "\nbl f" + fmt.Sprint(r.Intn(n)) + "\nsvc #0"}
	for k := 1; k < n; k++ {
		var b strings.Builder
		fmt.Fprintf(&b, ".global f%d\n", k)
		switch r.Intn(6) {
		case 0:
			fmt.Fprintf(&b, ".data d%d\n.align 3\nf%d: .quad f%d+4, 5\n", k, k, r.Intn(n))
		case 1:
			fmt.Fprintf(&b, ".rodata d%d%s\nf%d: .ascii \"abc\"\n", k, []string{"", ", keep"}[r.Intn(2)], k)
		case 2:
			fmt.Fprintf(&b, ".text c%d\n.align %d\nf%d: svc #1\nret\n", k, 2+r.Intn(4), k)
		default:
			fmt.Fprintf(&b, ".text c%d\nf%d: nop\n", k, k)
			for range r.Intn(4) {
				fmt.Fprintf(&b, "bl f%d\n", r.Intn(n))
			}
			fmt.Fprintf(&b, "adrp x1, f%d\nadd x1, x1, :lo12:f%d\n", r.Intn(n), r.Intn(n))
			if r.Intn(2) == 0 {
				fmt.Fprintf(&b, ".space %d\n", 4*(700+r.Intn(300)))
			}
			b.WriteString("ret\n")
		}
		at := 1
		if len(l) > 1 {
			at = 1 + r.Intn(len(l)-1)
		}
		if len(l) < 5 {
			l = append(l, b.String())
		} else {
			l[at] += b.String()
		}
	}
	return l
}

// TestWhole holds T1, T3 and T4: objects' bytes are their own, a section stands just if it is reached, two at one place are folded code, and far calls make nothing fail.
func TestWhole(t *testing.T) {
	r := rand.New(rand.NewSource(1))
	folded, lost := 0, 0
	for range 300 {
		l := texts(r)
		objects, w := drive.Objects(l)
		if w != (api.Where{}) {
			t.Fatalf("%v of %q", w, l)
		}
		o := options()
		o.Reach = api.MinReach
		x, w := drive.Build(l, "f0", o)
		if w != (api.Where{}) || !image.Is(x) {
			t.Fatalf("%v of %q", w, l)
		}
		for _, one := range objects {
			s, _ := obj.Put(one)
			if back, e := obj.Get(s); e != api.OK || fmt.Sprint(back) != fmt.Sprint(one) {
				t.Fatalf("%v is got as %v", one, back)
			}
		}
		at, _ := link.Map(objects, "f0", o)
		u, _ := graph.Flat(objects)
		roots, _ := graph.Roots(u, 0)
		in, _ := graph.Reach(u, roots)
		k, _ := shrink.Shrink(u, 0)
		starts := map[uint64]int{}
		for _, s := range x.Segs {
			starts[s.At] = s.Kind
		}
		for i := range u {
			if (at[i] != 0) != in[i] || in[i] && starts[at[i]] != u[i].Kind {
				t.Fatalf("the unit %d of %q: %d, %v", i, l, at[i], in[i])
			}
			if !in[i] {
				lost++
			}
			for j := range i {
				if !in[i] || !in[j] || at[i] != at[j] {
					continue
				}
				folded++
				if k.Rep[i] != k.Rep[j] || !fold.Alike(u[i], u[j]) {
					t.Fatalf("the units %d and %d of %q stand at one place", i, j, l)
				}
			}
		}
	}
	if folded < 20 || lost < 20 {
		t.Errorf("only %d are folded, and %d left out", folded, lost)
	}
}
