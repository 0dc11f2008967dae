package model_test

import (
	"fmt"
	"math/rand"
	"slices"
	"strings"
	"testing"

	"cleat/api"
	"cleat/asm"
	"cleat/graph"
	"cleat/image"
	"cleat/link"
	"cleat/model"
)

// writer writes programs by chance: sections of code that call one another, and data that holds places and numbers.
type writer struct {
	*rand.Rand
	code  int // how many sections of code
	data  int
	lines []string
}

func (w *writer) add(form string, args ...any) {
	w.lines = append(w.lines, fmt.Sprintf(form, args...))
}

// low is a register for plain numbers, high one for places.
func (w *writer) low() string  { return fmt.Sprint("x", w.Intn(5)) }
func (w *writer) high() string { return fmt.Sprint("x", 5+w.Intn(3)) }

func (w *writer) spot() string {
	if w.Intn(4) == 0 {
		return "sp"
	}
	return w.high()
}

// line adds one or more instructions.
func (w *writer) line() {
	d := fmt.Sprintf("d%d", w.Intn(w.data))
	switch w.Intn(17) {
	case 0:
		w.add("movz %s, #%d, lsl #%d", w.low(), w.Intn(65536), 16*w.Intn(4))
	case 1:
		w.add("%s %s, %s, %s, lsl #%d", []string{"add", "sub", "adds", "subs", "and", "orr", "eor", "ands"}[w.Intn(8)], w.low(), w.low(), w.low(), w.Intn(5))
	case 2:
		w.add("%s %s, %s, %s, %s", []string{"madd", "msub"}[w.Intn(2)], w.low(), w.low(), w.low(), w.low())
	case 3:
		w.add("%s %s, %s, #%d", []string{"add", "sub", "adds", "subs"}[w.Intn(4)], w.low(), w.low(), w.Intn(4096))
	case 4:
		w.add("adr %s, %s", "x9", "f0")
		w.add("adrp %s, %s+%d", "x8", d, 8*w.Intn(3))
	case 5:
		h := w.high()
		off := 8 * w.Intn(4)
		w.add("adrp %s, %s+%d", h, d, off)
		w.add("add %s, %s, :lo12:%s+%d", h, h, d, off)
	case 6:
		w.add("ldr %s, =%s+%d", w.high(), d, 8*w.Intn(3))
	case 7:
		w.add("ldr %s, [%s, #%d]", w.low(), w.spot(), 8*w.Intn(4))
	case 8:
		w.add("str %s, [%s, #%d]", w.low(), w.spot(), 8*w.Intn(4))
	case 9:
		w.add("ldrb %s, [%s, #%d]", w.low(), w.spot(), w.Intn(24))
	case 10:
		w.add("strb %s, [%s, #%d]", w.low(), w.spot(), w.Intn(24))
	case 11:
		h := w.spot()
		w.add("str %s, [%s, #%d]", w.high(), h, 8*w.Intn(4))
		w.add("ldr %s, [%s, #%d]", w.high(), h, 8*w.Intn(4))
	case 12:
		w.add("sub x0, %s, %s", w.high(), w.high())
		w.add("svc #1")
	case 13:
		w.add("subs %s, %s, %s", w.low(), w.high(), w.high())
	case 14:
		w.add("csel %s, %s, %s, %s", w.low(), w.low(), w.low(), []string{"eq", "lo", "gt", "mi", "ls", "vs"}[w.Intn(6)])
		w.add("csel %s, %s, %s, %s", w.high(), w.high(), w.high(), []string{"ne", "hs", "le"}[w.Intn(3)])
	case 15:
		w.add("%s 1f", []string{"b.ne", "b.lo", "b.ge", "cbz x1,", "cbnz x2,"}[w.Intn(5)])
		w.add("eor x0, x0, #0xff")
		w.add("1:")
	default:
		w.add("orr x0, %s, xzr", w.low())
		w.add("svc #1")
	}
}

// section adds code that may call sections above it, and returns; some are the same but for their names.
func (w *writer) section(k int) {
	w.add(".text t%d", k)
	w.add(".align %d", 2+w.Intn(3))
	w.add(".global f%d", k)
	if w.Intn(5) > 0 {
		w.add(".space %d", 4*(600+w.Intn(330)))
	}
	w.add("f%d: sub sp, sp, #64", k)
	w.add("str x30, [sp, #56]")
	if w.Intn(3) > 0 {
		w.add("str xzr, [sp]")
		w.add("adr x5, g%d", k)
		w.add("ldr x6, =d0")
		w.add("orr x7, xzr, x6")
		w.add("str x6, [sp, #16]")
	}
	for range w.Intn(9) {
		w.line()
		if k+1 < w.code && w.Intn(3) == 0 {
			w.add("bl f%d", k+1+w.Intn(w.code-k-1))
		}
	}
	w.add("ldr x30, [sp, #56]")
	w.add("add sp, sp, #64")
	w.add("g%d: ret", k)
}

func (w *writer) program() []string {
	w.lines = nil
	for k := range w.data {
		w.add("%s e%d%s", []string{".data", ".rodata", ".data"}[w.Intn(3)], k, []string{"", ", keep"}[w.Intn(2)])
		w.add(".align %d", w.Intn(5))
		w.add(".global d%d", k)
		w.add("d%d: .quad %d, d%d+%d, %d, f%d, 7", k, w.Intn(1000), w.Intn(w.data), 8*w.Intn(3), w.Intn(1<<30), w.Intn(w.code))
	}
	texts := []string{strings.Join(w.lines, "\n")}
	w.lines = nil
	w.add(".global main\n.text t\nmain: ldr x5, =d0\nadr x6, main\nldr x7, =d0+8\nbl f0\nbl f%d\nsvc #1\nsvc #0", w.Intn(w.code))
	for k := range w.code {
		if k == w.code/2 {
			texts = append(texts, strings.Join(w.lines, "\n"))
			w.lines = nil
		}
		if k > 1 && w.Intn(4) == 0 {
			// The same code twice, so that it may be folded.
			w.add(".text t%d\n.global f%d\nf%d: add x0, x0, #9\nsvc #1\nret", k, k, k)
			continue
		}
		w.section(k)
	}
	return append(texts, strings.Join(w.lines, "\n"))
}

// TestLinked holds P29.4: what is linked, and run, tells what the units do, if these are not stuck, with four steps for each at most.
func TestLinked(t *testing.T) {
	r := rand.New(rand.NewSource(1))
	whole, veneers, long := 0, 0, 0
	for k := range 1500 {
		w := &writer{Rand: r, code: 2 + r.Intn(7), data: 1 + r.Intn(3)}
		texts := w.program()
		var l []api.Object
		for _, s := range texts {
			o, f := asm.Assemble(s)
			if f.Code != api.OK {
				t.Fatalf("%v in %s", f, s)
			}
			l = append(l, o)
		}
		u, f := graph.Flat(l)
		sec, off, e := graph.Entry(l, "main")
		if f.Code != api.OK || e != api.OK {
			t.Fatalf("%v, %d", f, e)
		}
		n := 1 + r.Intn(400)
		want := model.Run(u, sec, off, n)
		text := 1 + uint64(r.Intn(9))
		o := api.Options{Text: text << 24, Data: text<<24 + 1<<(24+r.Intn(4)), Stack: 15 << 25, Reach: api.MinReach}
		x, f := link.Link(l, "main", o)
		if f.Code != api.OK {
			t.Fatalf("Link: %v", f)
		}
		for _, s := range x.Segs {
			if s.Kind == 1 && strings.Contains(s.Data, "\x00\x02\x1f\xd6") {
				veneers++
			}
		}
		if want.E != api.OK {
			continue
		}
		got := image.Run(x, 4*want.Steps)
		if len(got.Told) < len(want.Told) || !slices.Equal(got.Told[:len(want.Told)], want.Told) || want.Halted && (!got.Halted || got.Code != want.Code || len(got.Told) != len(want.Told)) || want.Halted && got.E != api.OK {
			t.Fatalf("%d: %v, but the model %v of\n%s", k, got, want, strings.Join(texts, "\n--\n"))
		}
		whole++
		if len(want.Told) > 2 {
			long++
		}
	}
	if whole < 200 || veneers < 200 || long < 50 {
		t.Errorf("only %d are not stuck, %d veneers, %d tell more", whole, veneers, long)
	}
}
