package step_test

import (
	"math"
	"math/rand"
	"slices"
	"strings"
	"testing"

	"cleat/alu"
	"cleat/api"
	"cleat/code"
	"cleat/mem"
	"cleat/step"
)

const (
	text = uint64(0x11000)
	data = uint64(0x20000)
)

func word(t *testing.T, i api.Inst) string {
	t.Helper()
	w, e := code.Encode(i)
	if e != api.OK {
		t.Fatalf("Encode(%v): %d", i, e)
	}
	return string([]byte{byte(w), byte(w >> 8), byte(w >> 16), byte(w >> 24)})
}

// memory has instructions at text, and 64 bytes at data.
func memory(t *testing.T, l ...api.Inst) *mem.Memory {
	t.Helper()
	var b strings.Builder
	for _, i := range l {
		b.WriteString(word(t, i))
	}
	var d strings.Builder
	for k := range 64 {
		d.WriteByte(byte(k + 1))
	}
	m, e := mem.New(api.Region{At: text, Kind: 1, Data: b.String()}, api.Region{At: data, Kind: 3, Data: d.String()}, api.Region{At: 2 * data, Kind: 2, Data: d.String()})
	if e != api.OK {
		t.Fatalf("New: %d", e)
	}
	return m
}

// machine has a number of its own in each register.
func machine() api.Cpu {
	c := api.Cpu{Pc: text, Sp: data + 16, F: api.Flags{C: true}}
	for k := range c.X {
		c.X[k] = uint64(k)*1000 + 7
	}
	return c
}

func TestRegWith(t *testing.T) {
	c := machine()
	for n := range 31 {
		for _, stack := range []bool{false, true} {
			if v, e := step.Reg(c, n, stack); v != c.X[n] || e != api.OK {
				t.Errorf("Reg(%d): %d, %d", n, v, e)
			}
			want := c
			want.X[n] = 5
			if d, e := step.With(c, n, stack, 5); d != want || e != api.OK {
				t.Errorf("With(%d): %v, %d", n, d, e)
			}
		}
	}
	want := c
	want.Sp = 5
	if v, e := step.Reg(c, 31, true); v != c.Sp || e != api.OK {
		t.Errorf("Reg(sp): %d, %d", v, e)
	}
	if v, e := step.Reg(c, 31, false); v != 0 || e != api.OK {
		t.Errorf("Reg(xzr): %d, %d", v, e)
	}
	if d, e := step.With(c, 31, true, 5); d != want || e != api.OK {
		t.Errorf("With(sp): %v, %d", d, e)
	}
	if d, e := step.With(c, 31, false, 5); d != c || e != api.OK {
		t.Errorf("With(xzr): %v, %d", d, e)
	}
	for _, n := range []int{-1, 32, math.MaxInt, math.MinInt} {
		v, e := step.Reg(c, n, true)
		d, f := step.With(c, n, true, 5)
		if v != 0 || e != api.ErrArg || d != (api.Cpu{}) || f != api.ErrArg {
			t.Errorf("%d: %d, %d, %v, %d", n, v, e, d, f)
		}
	}
}

// TestStep does one instruction each, and tells what should be other than Pc 4 more.
func TestStep(t *testing.T) {
	reg := func(n int, v uint64) func(*api.Cpu) { return func(c *api.Cpu) { c.X[n] = v } }
	sp := func(v uint64) func(*api.Cpu) { return func(c *api.Cpu) { c.Sp = v } }
	pc := func(v uint64) func(*api.Cpu) { return func(c *api.Cpu) { c.Pc = v } }
	link := func(v uint64) func(*api.Cpu) { return func(c *api.Cpu) { c.X[30], c.Pc = text+4, v } }
	x := func(n int) uint64 { return uint64(n)*1000 + 7 }
	for _, k := range []struct {
		i      api.Inst
		change []func(*api.Cpu)
	}{
		{api.Inst{Op: 38}, nil},
		{api.Inst{Op: 1, D: 3, Imm: 9}, []func(*api.Cpu){reg(3, 9)}},
		{api.Inst{Op: 1, D: 31, Imm: 9}, nil},
		{api.Inst{Op: 3, D: 2, Imm: 1, Amount: 16}, []func(*api.Cpu){reg(2, x(2)+65536)}},
		{api.Inst{Op: 4, D: 31, N: 31, Imm: 1}, []func(*api.Cpu){sp(data + 17)}},
		{api.Inst{Op: 5, D: 2, N: 31, Imm: 1}, []func(*api.Cpu){reg(2, data+15)}},
		{api.Inst{Op: 9, D: 31, N: 31, Mask: 255}, []func(*api.Cpu){sp(255)}},
		{api.Inst{Op: 8, D: 31, N: 1, Mask: 7}, []func(*api.Cpu){sp(7)}},
		{api.Inst{Op: 12, D: 1, N: 31, M: 2}, []func(*api.Cpu){reg(1, x(2))}},
		{api.Inst{Op: 12, D: 31, N: 1, M: 2}, nil},
		{api.Inst{Op: 13, D: 1, N: 1, M: 31}, nil},
		{api.Inst{Op: 20, D: 1, N: 2, M: 3, A: 4}, []func(*api.Cpu){reg(1, x(2)*x(3)+x(4))}},
		{api.Inst{Op: 21, D: 1, N: 2, M: 3, A: 31}, []func(*api.Cpu){reg(1, -(x(2) * x(3)))}},
		{api.Inst{Op: 39, D: 1, N: 2, M: 3, Cond: 2}, []func(*api.Cpu){reg(1, x(2))}},
		{api.Inst{Op: 39, D: 1, N: 2, M: 3, Cond: 3}, []func(*api.Cpu){reg(1, x(3))}},
		{api.Inst{Op: 15, D: 31, N: 2, M: 3}, []func(*api.Cpu){func(c *api.Cpu) { c.F = api.Flags{N: true} }}},
		{api.Inst{Op: 7, D: 31, N: 31, Imm: 0}, []func(*api.Cpu){func(c *api.Cpu) { c.F = api.Flags{C: true} }}},
		{api.Inst{Op: 22, D: 1, N: 31, Imm: 8}, []func(*api.Cpu){reg(1, 0x201f1e1d1c1b1a19)}},
		{api.Inst{Op: 22, D: 31, N: 31, Imm: 8}, nil},
		{api.Inst{Op: 24, D: 1, N: 31, Imm: 3}, []func(*api.Cpu){reg(1, 20)}},
		{api.Inst{Op: 27, D: 1, Imm: -1}, []func(*api.Cpu){reg(1, text-1)}},
		{api.Inst{Op: 28, D: 1, Imm: -2}, []func(*api.Cpu){reg(1, text-8192)}},
		{api.Inst{Op: 28, D: 31, Imm: 3}, nil},
		{api.Inst{Op: 29, Imm: -8}, []func(*api.Cpu){pc(text - 8)}},
		{api.Inst{Op: 30, Imm: 0}, []func(*api.Cpu){link(text)}},
		{api.Inst{Op: 30, Imm: 1 << 20}, []func(*api.Cpu){link(text + 1<<20)}},
		{api.Inst{Op: 31, Cond: 2, Imm: 40}, []func(*api.Cpu){pc(text + 40)}},
		{api.Inst{Op: 31, Cond: 3, Imm: 40}, nil},
		{api.Inst{Op: 32, D: 1, Imm: 40}, nil},
		{api.Inst{Op: 32, D: 31, Imm: 40}, []func(*api.Cpu){pc(text + 40)}},
		{api.Inst{Op: 33, D: 1, Imm: -40}, []func(*api.Cpu){pc(text - 40)}},
		{api.Inst{Op: 33, D: 31, Imm: 40}, nil},
		{api.Inst{Op: 34, N: 5}, []func(*api.Cpu){pc(x(5))}},
		{api.Inst{Op: 34, N: 31}, []func(*api.Cpu){pc(0)}},
		{api.Inst{Op: 35, N: 5}, []func(*api.Cpu){link(x(5))}},
		{api.Inst{Op: 35, N: 30}, []func(*api.Cpu){link(x(30))}},
		{api.Inst{Op: 36, N: 30}, []func(*api.Cpu){pc(x(30))}},
	} {
		want := machine()
		want.Pc += 4
		for _, f := range k.change {
			f(&want)
		}
		if c, ev, e := step.Step(machine(), memory(t, k.i)); c != want || ev != (api.Event{}) || e != api.OK {
			t.Errorf("Step(%v): %v, %v, %d, not %v", k.i, c, ev, e, want)
		}
	}
}

func TestStepNext(t *testing.T) {
	c := machine()
	c.Pc = text + 4
	d, _, e := step.Step(c, memory(t, api.Inst{Op: 38}, api.Inst{Op: 26, D: 4, Imm: -4}))
	c.X[4], c.Pc = 0x58ffffe4d503201f, text+8
	if d != c || e != api.OK {
		t.Errorf("ldr behind: %v, %d", d, e)
	}
	c = machine()
	m := memory(t, api.Inst{Op: 28, D: 1, Imm: 1})
	c.Pc = text
	if d, _, _ := step.Step(c, m); d.X[1] != text+4096 {
		t.Errorf("adrp: %d", d.X[1])
	}
	m, _ = mem.New(api.Region{At: 0x1ffc, Kind: 1, Data: word(t, api.Inst{Op: 28, D: 1, Imm: -3})})
	if d, _, _ := step.Step(api.Cpu{Pc: 0x1ffc}, m); d.X[1] != math.MaxUint64-0x1fff {
		t.Errorf("adrp: %#x", d.X[1])
	}
}

func TestStepStores(t *testing.T) {
	for _, x := range []struct {
		i    api.Inst
		want string
	}{
		{api.Inst{Op: 23, D: 1, N: 31, Imm: 0}, "\xef\x03\x00\x00\x00\x00\x00\x00\x19"},
		{api.Inst{Op: 25, D: 1, N: 31, Imm: 0}, "\xef\x12\x13\x14\x15\x16\x17\x18\x19"},
		{api.Inst{Op: 23, D: 31, N: 31, Imm: 0}, "\x00\x00\x00\x00\x00\x00\x00\x00\x19"},
		{api.Inst{Op: 25, D: 31, N: 31, Imm: 1}, "\x11\x00\x13\x14\x15\x16\x17\x18\x19"},
	} {
		m := memory(t, x.i)
		want := machine()
		want.Pc += 4
		c, ev, e := step.Step(machine(), m)
		if s, _ := m.Text(data+16, 9); s != x.want || c != want || ev != (api.Event{}) || e != api.OK {
			t.Errorf("Step(%v): %q, %d", x.i, s, e)
		}
	}
}

func TestStepTells(t *testing.T) {
	for _, x := range []struct {
		imm  int
		want api.Event
		e    api.Errno
	}{
		{0, api.Event{Kind: 2, V: 7}, api.OK}, {1, api.Event{Kind: 1, V: 7}, api.OK}, {2, api.Event{}, api.ErrStuck}, {65535, api.Event{}, api.ErrStuck},
	} {
		want := machine()
		want.Pc += 4
		if x.e != api.OK {
			want = api.Cpu{}
		}
		if c, ev, e := step.Step(machine(), memory(t, api.Inst{Op: 37, Imm: x.imm})); c != want || ev != x.want || e != x.e {
			t.Errorf("svc %d: %v, %v, %d", x.imm, c, ev, e)
		}
	}
}

func TestStepWrong(t *testing.T) {
	nop := api.Inst{Op: 38}
	c := machine()
	for _, x := range []struct {
		pc, base uint64
		i        api.Inst
		e        api.Errno
	}{
		{text + 2, 0, nop, api.ErrAlign}, {text + 4, 0, nop, api.ErrRange}, {0, 0, nop, api.ErrRange}, {data, 0, nop, api.ErrStuck}, {2 * data, 0, nop, api.ErrStuck},
		{text, data + 57, api.Inst{Op: 22, D: 1, N: 1}, api.ErrRange}, {text, data + 64, api.Inst{Op: 24, D: 1, N: 1}, api.ErrRange},
		{text, data + 57, api.Inst{Op: 23, D: 1, N: 1}, api.ErrRange}, {text, 2 * data, api.Inst{Op: 23, D: 1, N: 1}, api.ErrStuck}, {text, text, api.Inst{Op: 25, D: 1, N: 1}, api.ErrStuck},
		{text, 0, api.Inst{Op: 26, D: 1, Imm: 4}, api.ErrRange}, {text, 0, api.Inst{Op: 26, D: 31, Imm: 0}, api.ErrRange}, {text, data + 57, api.Inst{Op: 22, D: 31, N: 1}, api.ErrRange},
	} {
		c.Pc, c.X[1] = x.pc, x.base
		m := memory(t, x.i)
		before, _ := m.Text(data, 64)
		if d, ev, e := step.Step(c, m); d != (api.Cpu{}) || ev != (api.Event{}) || e != x.e {
			t.Errorf("%d %v: %v, %v, %d", x.pc, x.i, d, ev, e)
		}
		if after, _ := m.Text(data, 64); after != before {
			t.Errorf("%v turned memory", x.i)
		}
	}
	m, _ := mem.New(api.Region{At: text, Kind: 1, Data: "\x00\x00\x00\x00"})
	if d, _, e := step.Step(machine(), m); d != (api.Cpu{}) || e != api.ErrWord {
		t.Errorf("no instruction: %d", e)
	}
	if d, _, e := step.Step(machine(), nil); d != (api.Cpu{}) || e != api.ErrArg {
		t.Errorf("no memory: %d", e)
	}
}

func same(a, b api.Trace) bool {
	return slices.Equal(a.Told, b.Told) && a.Halted == b.Halted && a.Code == b.Code && a.Steps == b.Steps && a.E == b.E
}

func TestRun(t *testing.T) {
	program := []api.Inst{{Op: 1, Imm: 7}, {Op: 37, Imm: 1}, {Op: 4, Imm: 1}, {Op: 37, Imm: 1}, {Op: 37}}
	for _, x := range []struct {
		n    int
		want api.Trace
		pc   uint64
	}{
		{100, api.Trace{Told: []uint64{7, 8}, Halted: true, Code: 8, Steps: 5}, 20},
		{5, api.Trace{Told: []uint64{7, 8}, Halted: true, Code: 8, Steps: 5}, 20},
		{4, api.Trace{Told: []uint64{7, 8}, Steps: 4}, 16},
		{2, api.Trace{Told: []uint64{7}, Steps: 2}, 8},
		{0, api.Trace{}, 0},
		{-1, api.Trace{E: api.ErrArg}, 0},
		{api.MaxSteps + 1, api.Trace{E: api.ErrArg}, 0},
		{math.MaxInt, api.Trace{E: api.ErrArg}, 0},
		{math.MinInt, api.Trace{E: api.ErrArg}, 0},
		{api.MaxSteps, api.Trace{Told: []uint64{7, 8}, Halted: true, Code: 8, Steps: 5}, 20},
	} {
		c, trace := step.Run(machine(), memory(t, program...), x.n)
		if !same(trace, x.want) || c.Pc != text+x.pc {
			t.Errorf("Run(%d): %v at %d", x.n, trace, c.Pc)
		}
	}
	c, trace := step.Run(machine(), memory(t, program[:2]...), 10)
	want := machine()
	want.X[0], want.Pc = 7, text+8
	if !same(trace, api.Trace{Told: []uint64{7}, Steps: 2, E: api.ErrRange}) || c != want {
		t.Errorf("run out: %v, %v", trace, c)
	}
	c, trace = step.Run(machine(), nil, 3)
	if !same(trace, api.Trace{E: api.ErrArg}) || c != machine() {
		t.Errorf("no memory: %v", trace)
	}
	c, trace = step.Run(machine(), nil, 0)
	if !same(trace, api.Trace{}) || c != machine() {
		t.Errorf("no memory, no step: %v", trace)
	}
	_, trace = step.Run(machine(), memory(t, api.Inst{Op: 29}), api.MaxSteps)
	if !same(trace, api.Trace{Steps: api.MaxSteps}) {
		t.Errorf("a loop: %v", trace)
	}
	c, trace = step.Run(machine(), memory(t, api.Inst{Op: 1, D: 1}, api.Inst{Op: 37, Imm: 2}), 9)
	if !same(trace, api.Trace{Steps: 1, E: api.ErrStuck}) || c.Pc != text+4 {
		t.Errorf("svc 2: %v", trace)
	}
}

// TestFollows holds P8.4, and that numbers are made as layer 6 makes them, for instructions one behind the other.
func TestFollows(t *testing.T) {
	r := rand.New(rand.NewSource(1))
	for range 300 {
		var l []api.Inst
		for len(l) < 12 {
			base, _ := code.Base(1 + r.Intn(39))
			if i, e := code.Decode(base | r.Uint32()&0x00ffffff); e == api.OK && (alu.Is(i) || r.Intn(4) == 0) {
				l = append(l, i)
			}
		}
		m, again := memory(t, l...), memory(t, l...)
		last, whole := step.Run(machine(), m, 12)
		c := machine()
		steps, e := 0, api.OK
		var told []uint64
		for range 12 {
			part, trace := step.Run(machine(), memory(t, l...), steps)
			if part != c || !slices.Equal(trace.Told, told) || trace.Steps != steps || trace.E != api.OK {
				t.Fatalf("%v: %d steps: %v", l, steps, trace)
			}
			var d api.Cpu
			var ev api.Event
			d, ev, e = step.Step(c, again)
			if e != api.OK {
				break
			}
			c = d
			steps++
			if ev.Kind == 1 {
				told = append(told, ev.V)
			}
			if ev.Kind == 2 {
				break
			}
		}
		if c != last || whole.Steps != steps || whole.E != e || !slices.Equal(whole.Told, told) {
			t.Fatalf("%v: %v, and %d steps with %d", l, whole, steps, e)
		}
	}
}
