package model_test

import (
	"fmt"
	"math"
	"strings"
	"testing"

	"cleat/api"
	"cleat/asm"
	"cleat/graph"
	"cleat/model"
)

func units(t *testing.T, texts ...string) []api.Unit {
	t.Helper()
	var l []api.Object
	for _, s := range texts {
		o, f := asm.Assemble(s)
		if f.Code != api.OK {
			t.Fatalf("%q: %v", s, f)
		}
		l = append(l, o)
	}
	u, f := graph.Flat(l)
	if f.Code != api.OK {
		t.Fatalf("Flat: %v", f)
	}
	return u
}

// told is a trace in short: what was told, and how it ended, after so many steps.
func told(x api.Trace) string {
	s := fmt.Sprint(x.Told)
	if x.Halted {
		s += fmt.Sprint(" halt ", x.Code)
	}
	if x.E != api.OK {
		s += fmt.Sprint(" error ", int(x.E))
	}
	return s + fmt.Sprint(" steps ", x.Steps)
}

// sections stand behind the code of each case: the units 1 to 7; the stack is 8.
const sections = `
.text g
g: adr x9, g
ret
.data d
.align 3
d: .quad 5, d+8, g, 0x1122334455667788
.rodata r
r: .quad 77, r+8
.byte 1, 2, 3
.text c
c: nop
c1: .quad 6, d
b g
nop
.text e
e: .byte 0, 0
.quad d
.byte 0, 0x14
.data n
n: nop
svc #0
.text h
h: .byte 0, 0
.byte 0x1f, 0x20, 3, 0xd5
.byte 1, 0, 0, 0xd4
`

// cases are lines, with ; between, and what running them tells.
func cases() map[string]string {
	return map[string]string{
		"movz x0, #7; svc #1; svc #0": "[7] halt 7 steps 3",
		"svc #1; svc #0":              "[0] halt 0 steps 2",
		"nop":                         "[] error 10 steps 1",
		"svc #2":                      "[] error 10 steps 0",
		"adr x0, d; svc #1":           "[] error 10 steps 1",
		"adr x0, d; svc #0":           "[] error 10 steps 1",
		".byte 0, 0, 0, 0":            "[] error 10 steps 0",
		".byte 0x1f, 0x20, 3":         "[] error 10 steps 0",

		"adr x1, main; sub x0, x1, x1": "[] error 10 steps 1",
		"adr x1, d; adr x2, d+24; sub x0, x2, x1; svc #1; subs x0, x1, x2; svc #1; b.lo 1f; svc #2; 1: svc #0": "[24 18446744073709551592] halt 18446744073709551592 steps 8",
		"adr x1, d+32; adr x2, d; subs x0, x1, x2; svc #0":                                                     "[] halt 32 steps 4",
		"adr x1, d+33; adr x2, d; sub x0, x1, x2; svc #1; subs x0, x1, x2":                                     "[33] error 10 steps 4",
		"adr x1, d+33; adr x2, d; subs x0, x2, x1":                                                             "[] error 10 steps 2",
		"adr x1, d-1; adr x2, d; sub x0, x2, x1; svc #1; subs x0, x2, x1":                                      "[1] error 10 steps 4",
		"adr x1, c; adr x2, c; subs x0, x2, x1":                                                                "[] error 10 steps 2",
		"adr x1, g; sub x0, x1, x1":                                                                            "[] error 10 steps 1",
		"adr x1, r; sub x0, x1, x1; svc #0":                                                                    "[] halt 0 steps 3",
		"add x1, sp, #0; sub x2, sp, #64; subs x0, x1, x2; svc #0":                                             "[] halt 64 steps 4",
		"add x1, sp, #1; sub x2, sp, #64; subs x0, x1, x2; svc #0":                                             "[] error 10 steps 2",
		"adr x1, d; adr x2, r; sub x0, x1, x2":                                                                 "[] error 10 steps 2",
		"adr x1, d; adds x2, x1, #1":                                                                           "[] error 10 steps 1",
		"adr x1, d; orr x2, xzr, x1; ldr x0, [x2]; svc #0":                                                     "[] halt 5 steps 4",
		"adr x1, d; subs xzr, xzr, xzr; csel x2, x1, x3, eq; ldr x0, [x2]; svc #0":                             "[] halt 5 steps 5",
		"adr x1, d; csel x2, x1, x3, eq; ldr x0, [x2]; svc #0":                                                 "[] error 10 steps 2",
		"movk x1, #5; movk x1, #1, lsl #16; orr x0, x1, xzr; svc #0":                                           "[] halt 65541 steps 4",
		"movk xzr, #5; orr x0, xzr, xzr; svc #0":                                                               "[] halt 0 steps 3",
		"adr x1, d; movk x1, #5":                                                                               "[] error 10 steps 1",
		"adr x1, d; add xzr, x1, x1":                                                                           "[] error 10 steps 1",
		"and sp, xzr, #6; add x0, sp, #1; svc #0":                                                              "[] halt 1 steps 3",
		"adr x1, d; movz x2, #3; add x1, x1, x2, lsl #3; ldr x0, [x1]; svc #0":                                 "[] halt 1234605616436508552 steps 5",

		"adr x1, d; ldr x0, [x1]; svc #0":                                             "[] halt 5 steps 3",
		"adr x1, d; ldr x2, [x1, #8]; sub x0, x2, x1; svc #0":                         "[] halt 8 steps 4",
		"adr x1, d; ldr x2, [x1, #16]; blr x2; svc #0":                                "[] halt 0 steps 6",
		"adr x1, d+4; ldr x2, [x1]":                                                   "[] error 10 steps 1",
		"adr x1, d+1; ldr x2, [x1]":                                                   "[] error 10 steps 1",
		"adr x1, d+20; ldr x0, [x1]":                                                  "[] error 10 steps 1",
		"adr x1, d+23; ldr x0, [x1]":                                                  "[] error 10 steps 1",
		"adr x1, d+24; ldr x0, [x1]; svc #0":                                          "[] halt 1234605616436508552 steps 3",
		"adr x1, d+25; ldr x0, [x1]":                                                  "[] error 10 steps 1",
		"adr x1, d-1; ldrb x0, [x1]":                                                  "[] error 10 steps 1",
		"adr x1, d-8; ldr x0, [x1, #8]; svc #0":                                       "[] halt 5 steps 3",
		"adr x1, d+31; ldrb x0, [x1]; svc #0":                                         "[] halt 17 steps 3",
		"adr x1, d+32; ldrb x0, [x1]":                                                 "[] error 10 steps 1",
		"adr x1, d; ldrb x0, [x1, #8]":                                                "[] error 10 steps 1",
		"adr x1, d; ldrb x0, [x1, #15]":                                               "[] error 10 steps 1",
		"adr x1, d; ldrb x0, [x1, #7]; svc #0":                                        "[] halt 0 steps 3",
		"adr x1, d; ldrb x0, [x1, #24]; svc #0":                                       "[] halt 136 steps 3",
		"adr x1, d; movz x2, #9; str x2, [x1, #8]; ldrb x0, [x1, #8]; svc #0":         "[] halt 9 steps 5",
		"adr x1, d; movz x2, #9; str x2, [x1, #8]; ldr x0, [x1, #8]; svc #0":          "[] halt 9 steps 5",
		"adr x1, d; str x1, [x1]; ldr x2, [x1]; ldr x0, [x2, #24]; svc #0":            "[] halt 1234605616436508552 steps 5",
		"adr x1, d; str x1, [x1]; ldrb x0, [x1]":                                      "[] error 10 steps 2",
		"adr x1, d; str x1, [x1, #24]; str xzr, [x1, #24]; ldr x0, [x1, #24]; svc #0": "[] halt 0 steps 5",
		"adr x1, d+4; str xzr, [x1]":                                                  "[] error 10 steps 1",
		"adr x1, d+4; str x1, [x1]":                                                   "[] error 10 steps 1",
		"adr x1, d; strb xzr, [x1, #8]":                                               "[] error 10 steps 1",
		"adr x1, d; strb x3, [x1, #7]; ldrb x0, [x1, #7]; svc #0":                     "[] halt 0 steps 4",
		"adr x1, d; adr x2, r; strb x2, [x1]":                                         "[] error 10 steps 2",
		"adrp x2, d; adr x1, d; str x2, [x1]":                                         "[] error 10 steps 2",
		"adrp x2, d; adr x1, d; strb x2, [x1]":                                        "[] error 10 steps 2",
		"bl g; adr x1, d; str x16, [x1]":                                              "[] error 10 steps 4",
		"adr x1, d; movz x2, #0x1ff; strb x2, [x1]; ldr x0, [x1]; svc #0":             "[] halt 255 steps 5",
		"adr x1, r; str xzr, [x1]":                                                    "[] error 10 steps 1",
		"adr x1, r; strb xzr, [x1, #16]":                                              "[] error 10 steps 1",
		"adr x1, r; ldrb x0, [x1, #18]; svc #0":                                       "[] halt 3 steps 3",
		"adr x1, r; ldrb x0, [x1, #19]":                                               "[] error 10 steps 1",
		"adr x1, r+11; ldr x0, [x1]":                                                  "[] error 10 steps 1",
		"adr x1, c; ldr x0, [x1]":                                                     "[] error 10 steps 1",
		"adr x1, c; ldrb x0, [x1]":                                                    "[] error 10 steps 1",
		"adr x1, c; str x0, [x1]":                                                     "[] error 10 steps 1",
		"adr x1, c; strb x0, [x1]":                                                    "[] error 10 steps 1",
		"movz x1, #8; ldr x0, [x1]":                                                   "[] error 10 steps 1",
		"adrp x1, d; ldr x0, [x1]":                                                    "[] error 10 steps 1",
		"adr x1, d; ldr xzr, [x1, #32]":                                               "[] error 10 steps 1",

		"adrp x1, d; ldr x0, [x1, :lo12:d]; svc #0":                                      "[] halt 5 steps 3",
		"adrp x1, d; ldr x0, [x1, :lo12:d+24]":                                           "[] error 10 steps 1",
		"adrp x1, d+24; ldr x0, [x1, :lo12:d+24]; svc #0":                                "[] halt 1234605616436508552 steps 3",
		"adrp x1, d; ldrb x0, [x1, :lo12:d]; svc #0":                                     "[] halt 5 steps 3",
		"adrp x1, d; add x1, x1, :lo12:d; ldr x0, [x1, #24]; svc #0":                     "[] halt 1234605616436508552 steps 4",
		"adrp x1, r; add x1, x1, :lo12:d":                                                "[] error 10 steps 1",
		"adrp x1, d+1; add x1, x1, :lo12:d":                                              "[] error 10 steps 1",
		"adr x1, d; add x1, x1, :lo12:d":                                                 "[] error 10 steps 1",
		"add x1, x1, :lo12:d":                                                            "[] error 10 steps 0",
		"adr x1, d; ldr x0, [x1, :lo12:d]":                                               "[] error 10 steps 1",
		"adrp x1, d; add x2, x1, #0":                                                     "[] error 10 steps 1",
		"adrp x1, d; orr x2, xzr, x1; add x3, x2, :lo12:d; ldr x0, [x3]; svc #0":         "[] halt 5 steps 5",
		"adrp x1, d; movz x2, #3; str x2, [x1, :lo12:d]; ldr x0, [x1, :lo12:d]; svc #0":  "[] halt 3 steps 5",
		"adrp x1, d; movz x2, #3; strb x2, [x1, :lo12:d]; ldr x0, [x1, :lo12:d]; svc #0": "[] halt 3 steps 5",
		"adrp x1, r; strb x2, [x1, :lo12:r]":                                             "[] error 10 steps 1",
		"adrp x1, c; ldr x0, [x1, :lo12:c]":                                              "[] error 10 steps 1",
		"adrp x1, d; add sp, x1, :lo12:d; ldr x0, [sp]; svc #0":                          "[] halt 5 steps 4",
		"adrp x1, d; subs xzr, xzr, xzr; add x1, x1, :lo12:d; b.ne 1f; svc #0; 1:":       "[] halt 0 steps 5",
		"adrp x1, #1":                           "[] error 10 steps 0",
		"adr x1, #8; br x1; svc #0":             "[] halt 0 steps 3",
		"nop; adr x1, #-4; sub x1, x1, #0; nop": "[] error 10 steps 4",
		"adr xzr, d; adrp xzr, d; svc #0":       "[] halt 0 steps 3",

		"ldr x0, r; svc #0":                      "[] halt 77 steps 2",
		"ldr x0, c1; svc #0":                     "[] halt 6 steps 2",
		"ldr x1, c1+8; ldr x0, [x1]; svc #0":     "[] halt 5 steps 3",
		"ldr x0, c1+4":                           "[] error 10 steps 0",
		"ldr x0, c1+16":                          "[] error 10 steps 0",
		"ldr x0, c1+12":                          "[] error 10 steps 0",
		"ldr x0, c; svc #0":                      "[] halt 29343555615 steps 2",
		"ldr x0, c+24":                           "[] error 10 steps 0",
		"ldr xzr, c+24":                          "[] error 10 steps 0",
		"ldr x0, c-4":                            "[] error 10 steps 0",
		"ldr x0, #8; svc #0; .quad 3":            "[] halt 3 steps 2",
		"nop; nop; ldr x0, #-8; svc #0":          "[] halt 15349147276098609183 steps 4",
		"bl 1f; 1: nop; ldr x0, #-8; svc #0":     "[] error 10 steps 2",
		"ldr x0, =9; svc #0":                     "[] halt 9 steps 2",
		"ldr x1, =d+24; ldr x0, [x1]; svc #0":    "[] halt 1234605616436508552 steps 3",
		"ldr x1, d+8; ldr x2, d; sub x0, x1, x2": "[] error 10 steps 3",

		"b 1f; svc #2; 1: svc #0":                                        "[] halt 0 steps 2",
		"b #8; svc #2; svc #0":                                           "[] halt 0 steps 2",
		"bl 1f; svc #0; 1: movz x0, #3; ret":                             "[] halt 3 steps 4",
		"bl g; svc #0":                                                   "[] halt 0 steps 4",
		"b #-4":                                                          "[] error 10 steps 1",
		"b #400":                                                         "[] error 10 steps 1",
		"movz x16, #1; bl g; orr x0, x16, xzr":                           "[] error 10 steps 4",
		"movz x17, #1; bl g; add x0, x17, #0":                            "[] error 10 steps 4",
		"movz x15, #1; bl g; add x0, x15, #0; svc #0":                    "[] halt 1 steps 6",
		"movz x18, #1; bl g; add x0, x18, #0; svc #0":                    "[] halt 1 steps 6",
		"adr x30, 1f; movz x16, #1; b g; 1: add x0, x16, #0":             "[] error 10 steps 5",
		"movz x16, #1; bl 1f; add x0, x16, #0; svc #0; 1: ret":           "[] halt 1 steps 5",
		"movz x16, #1; b 1f; 1: add x0, x16, #0; svc #0":                 "[] halt 1 steps 4",
		"movz x16, #1; bl g; movz x16, #2; add x0, x16, #0; svc #0":      "[] halt 2 steps 7",
		"movz x16, #1; adr x30, #8; cbz xzr, g; add x0, x16, #0; svc #0": "[] halt 1 steps 7",
		"movz x17, #1; adr x1, g; blr x1; add x0, x17, #0; svc #0":       "[] halt 1 steps 7",
		"adr x1, d; cbz x1, 1f; 1: svc #0":                               "[] error 10 steps 1",
		"adr x1, d; cbnz x1, 1f; 1: svc #0":                              "[] error 10 steps 1",
		"movz x1, #1; cbz x1, 1f; svc #0; 1: svc #2":                     "[] halt 0 steps 3",
		"movz x1, #1; cbnz x1, 1f; svc #2; 1: svc #0":                    "[] halt 0 steps 3",
		"cbnz x1, 1f; svc #0; 1: svc #2":                                 "[] halt 0 steps 2",
		"b.eq 1f; svc #0; 1: svc #2":                                     "[] halt 0 steps 2",
		"subs xzr, xzr, xzr; b.eq 1f; svc #2; 1: svc #0":                 "[] halt 0 steps 3",
		"subs xzr, xzr, xzr; b.eq #8; svc #2; svc #0":                    "[] halt 0 steps 3",
		"b d":                           "[] error 10 steps 1",
		"adr x1, d; br x1":              "[] error 10 steps 1",
		"br xzr":                        "[] error 10 steps 0",
		"movz x1, #0; br x1":            "[] error 10 steps 1",
		"adrp x1, g; br x1":             "[] error 10 steps 1",
		"add x1, sp, #0; blr x1":        "[] error 10 steps 1",
		"adr x1, g+4; blr x1; svc #0":   "[] halt 0 steps 4",
		"adr x30, g+4; blr x30; svc #0": "[] halt 0 steps 4",
		"adr x1, g+2; br x1":            "[] error 10 steps 2",
		"b c1":                          "[] error 10 steps 1",
		"b n":                           "[] error 10 steps 1",
		"adr x1, n; br x1":              "[] error 10 steps 1",
		"b h+2":                         "[] error 10 steps 1",
		"adr x1, h+2; blr x1":           "[] error 10 steps 2",
		"adr x1, d; str x1, [sp]":       "[] error 10 steps 1",
		"adr x1, d; str x1, [x1, #32]":  "[] error 10 steps 1",
		"adr x1, d+25; str x1, [x1]":    "[] error 10 steps 1",
		"adr x1, d; movz x2, #0x1234; movk x2, #0x5678, lsl #48; str x2, [x1]; ldr x0, [x1]; svc #1; ldrb x0, [x1, #7]; svc #1; ldrb x0, [x1, #1]; svc #0": "[6230730084467085876 86] halt 18 steps 10",
		"movz x1, #5; add x0, x1, xzr; svc #0":                     "[] halt 5 steps 3",
		"movz x1, #5; madd x0, x1, x1, xzr; svc #0":                "[] halt 25 steps 3",
		"adr x1, g+8; movz x2, #4; sub x1, x1, x2; blr x1; svc #0": "[] halt 0 steps 6",
		"adr x1, g+8; sub x1, x1, #4; blr x1; svc #0":              "[] halt 0 steps 5",
		"adr x1, d; adr x2, d+32; subs x0, x1, x2; svc #0":         "[] halt 18446744073709551584 steps 4",
		"adr x1, d; adr x2, d+33; subs x0, x1, x2":                 "[] error 10 steps 2",
		"b c1+8": "[] error 10 steps 1",
		"b e+8":  "[] error 10 steps 1",

		"str x0, [sp]": "[] error 10 steps 0",
		"movz x1, #5; sub sp, sp, #16; str x1, [sp, #8]; ldr x0, [sp, #8]; svc #0":                              "[] halt 5 steps 5",
		"adr x1, d; sub sp, sp, #16; str x1, [sp]; ldr x2, [sp]; ldr x0, [x2]; svc #0":                          "[] halt 5 steps 6",
		"sub sp, sp, #4095; sub sp, sp, #1; ldrb x0, [sp]; svc #0":                                              "[] halt 0 steps 4",
		"sub sp, sp, #4095; sub sp, sp, #2; ldrb x0, [sp]":                                                      "[] error 10 steps 2",
		"sub sp, sp, #8; strb x30, [sp]; bl 1f; 1: str x30, [sp]; ldr x1, [sp]; sub x2, x1, #0; strb x30, [sp]": "[] error 10 steps 6",
	}
}

func TestRun(t *testing.T) {
	for s, want := range cases() {
		u := units(t, ".global main\n.text t\nmain: "+strings.ReplaceAll(s, ";", "\n")+sections)
		before := fmt.Sprint(u)
		got := told(model.Run(u, 0, 0, 100))
		if got != want {
			t.Errorf("%q: %s, not %s", s, got, want)
		}
		if again := told(model.Run(u, 0, 0, 100)); again != got || fmt.Sprint(u) != before {
			t.Errorf("%q again: %s", s, again)
		}
	}
}

func TestRunArgs(t *testing.T) {
	u := units(t, ".text t\nnop\nmovz x0, #7\nsvc #1\nb #-8\n.data d\n.byte 1\n.text v\nsvc #0")
	wrong := append([]api.Unit{}, u...)
	wrong[1].Align = 13
	type args struct{ sec, off, n int }
	for x, want := range map[args]string{
		{0, 0, 0}: "[] steps 0", {0, 0, 2}: "[] steps 2", {0, 0, 3}: "[7] steps 3", {0, 4, 5}: "[7 7] steps 5", {0, 8, 1}: "[0] steps 1", {2, 0, 9}: "[] halt 0 steps 1",
		{0, 2, 5}: "[] error 10 steps 0", {0, -4, 5}: "[] error 10 steps 0", {0, 16, 5}: "[] error 10 steps 0", {0, math.MinInt, 5}: "[] error 10 steps 0", {0, math.MaxInt, 5}: "[] error 10 steps 0", {0, math.MaxInt - 3, 5}: "[] error 10 steps 0", {0, 2, 0}: "[] steps 0",
		{-1, 0, 5}: "[] error 1 steps 0", {3, 0, 5}: "[] error 1 steps 0", {1, 0, 5}: "[] error 1 steps 0", {math.MaxInt, 0, 5}: "[] error 1 steps 0", {0, 0, -1}: "[] error 1 steps 0", {0, 0, 100001}: "[] error 1 steps 0", {1, 0, 0}: "[] error 1 steps 0",
	} {
		if got := told(model.Run(u, x.sec, x.off, x.n)); got != want {
			t.Errorf("Run(%v): %s, not %s", x, got, want)
		}
	}
	if got := told(model.Run(wrong, 0, 0, 5)); got != "[] error 1 steps 0" {
		t.Errorf("Run of wrong units: %s", got)
	}
	if got := told(model.Run(nil, 0, 0, 0)); got != "[] error 1 steps 0" {
		t.Errorf("Run of no units: %s", got)
	}
	if x := model.Run(u, 0, 0, api.MaxSteps); x.Steps != api.MaxSteps || x.E != api.OK || x.Halted {
		t.Errorf("Run of all steps: %d, %d", x.Steps, x.E)
	}
}

// TestBeginning holds that a run is the beginning of a longer one, and that a unit that is not come to plays no part.
func TestBeginning(t *testing.T) {
	text := ".global main\n.text t\nmain: movz x3, #3\n1: orr x0, x3, xzr\nsvc #1\nsub x3, x3, #1\ncbnz x3, 1b\nbl g\nsvc #0"
	u := units(t, text+sections)
	whole := model.Run(u, 0, 0, 100)
	for n := range 30 {
		x := model.Run(u, 0, 0, n)
		if x.Steps != min(n, whole.Steps) || len(x.Told) > len(whole.Told) || fmt.Sprint(x.Told) != fmt.Sprint(whole.Told[:len(x.Told)]) || x.Halted != (n >= whole.Steps) {
			t.Errorf("Run(%d): %v of %v", n, x, whole)
		}
	}
	other := units(t, text+strings.ReplaceAll(sections, "77", "78"))
	if x := model.Run(other, 0, 0, 100); told(x) != told(whole) || told(whole) != "[3 2 1] halt 1 steps 17" {
		t.Errorf("Run: %s, %s", told(x), told(whole))
	}
}
