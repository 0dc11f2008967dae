package inst_test

import (
	"math"
	"slices"
	"testing"

	"cleat/api"
	"cleat/inst"
)

// row is what the document's table says of some operations: their shape, the registers that they have, and the bounds of their numbers.
type row struct {
	shape  int
	ops    []int
	names  []string
	regs   string
	bounds map[string][3]int
}

func table() []row {
	near := map[string][3]int{"Imm": {-1048576, 1048572, 4}}
	return []row{
		{1, []int{1, 2, 3}, []string{"movz", "movn", "movk"}, "D", map[string][3]int{"Imm": {0, 65535, 1}, "Amount": {0, 48, 16}}},
		{2, []int{4, 5, 6, 7}, []string{"add", "sub", "adds", "subs"}, "DN", map[string][3]int{"Imm": {0, 4095, 1}, "Amount": {0, 12, 12}}},
		{3, []int{8, 9, 10, 11}, []string{"and", "orr", "eor", "ands"}, "DN", nil},
		{4, []int{12, 13, 14, 15}, []string{"add", "sub", "adds", "subs"}, "DNM", map[string][3]int{"Shift": {0, 2, 1}, "Amount": {0, 63, 1}}},
		{5, []int{16, 17, 18, 19}, []string{"and", "orr", "eor", "ands"}, "DNM", map[string][3]int{"Shift": {0, 3, 1}, "Amount": {0, 63, 1}}},
		{6, []int{20, 21}, []string{"madd", "msub"}, "DNMA", nil},
		{7, []int{22, 23}, []string{"ldr", "str"}, "DN", map[string][3]int{"Imm": {0, 32760, 8}}},
		{8, []int{24, 25}, []string{"ldrb", "strb"}, "DN", map[string][3]int{"Imm": {0, 4095, 1}}},
		{9, []int{26, 32, 33}, []string{"ldr", "cbz", "cbnz"}, "D", near},
		{10, []int{27, 28}, []string{"adr", "adrp"}, "D", map[string][3]int{"Imm": {-1048576, 1048575, 1}}},
		{11, []int{29, 30}, []string{"b", "bl"}, "", map[string][3]int{"Imm": {-134217728, 134217724, 4}}},
		{12, []int{31}, []string{"b"}, "", map[string][3]int{"Imm": {-1048576, 1048572, 4}, "Cond": {0, 13, 1}}},
		{13, []int{34, 35, 36}, []string{"br", "blr", "ret"}, "N", nil},
		{14, []int{37}, []string{"svc"}, "", map[string][3]int{"Imm": {0, 65535, 1}}},
		{15, []int{38}, []string{"nop"}, "", nil},
		{16, []int{39}, []string{"csel"}, "DNM", map[string][3]int{"Cond": {0, 13, 1}}},
	}
}

// field is a number's or register's place in an instruction.
func field(i *api.Inst, name string) *int {
	return map[string]*int{"D": &i.D, "N": &i.N, "M": &i.M, "A": &i.A, "Imm": &i.Imm, "Shift": &i.Shift, "Amount": &i.Amount, "Cond": &i.Cond}[name]
}

func base(r row, op int) api.Inst {
	i := api.Inst{Op: op}
	if r.shape == 3 {
		i.Mask = 6
	}
	return i
}

func TestShapeName(t *testing.T) {
	byName := map[string][]int{}
	for _, r := range table() {
		for k, op := range r.ops {
			byName[r.names[k]] = append(byName[r.names[k]], op)
			if s := inst.Shape(op); s != r.shape {
				t.Errorf("Shape(%d): %d", op, s)
			}
			if n, e := inst.Name(op); n != r.names[k] || e != api.OK {
				t.Errorf("Name(%d): %q, %d", op, n, e)
			}
		}
	}
	for n, ops := range byName {
		slices.Sort(ops)
		if l := inst.Ops(n); !slices.Equal(l, ops) {
			t.Errorf("Ops(%q): %v", n, l)
		}
	}
	for _, n := range []string{"", "mov", "ADD", "add ", "b.eq", "b.", "movzz"} {
		if l := inst.Ops(n); len(l) != 0 {
			t.Errorf("Ops(%q): %v", n, l)
		}
	}
	for _, op := range []int{0, -1, 40, math.MaxInt, math.MinInt} {
		if n, e := inst.Name(op); n != "" || e != api.ErrArg || inst.Shape(op) != 0 || inst.Is(api.Inst{Op: op}) {
			t.Errorf("%d: %q, %d, %d", op, n, e, inst.Shape(op))
		}
	}
	a := inst.Ops("add")
	a[0] = 9
	if b := inst.Ops("add"); b[0] != 4 {
		t.Errorf("Ops shares its memory: %v", b)
	}
}

func TestIsNumbers(t *testing.T) {
	for _, r := range table() {
		for _, op := range r.ops {
			i := base(r, op)
			if !inst.Is(i) {
				t.Errorf("%v is not right", i)
			}
			for _, name := range []string{"Imm", "Shift", "Amount", "Cond"} {
				b := r.bounds[name]
				for _, v := range []int{b[0], b[1], b[0] + b[2], b[0] - 1, b[1] + 1, b[0] - 4, b[1] + b[2], 1, 2, 4, 8, 12, 15, 17, 63, 64, -1, -4, math.MaxInt, math.MinInt} {
					j := i
					*field(&j, name) = v
					want := v >= b[0] && v <= b[1] && (v == 0 || b[2] != 0 && v%b[2] == 0)
					if inst.Is(j) != want {
						t.Errorf("Is(%v): %v", j, !want)
					}
				}
			}
		}
	}
}

func TestIsRegistersMasks(t *testing.T) {
	for _, r := range table() {
		for _, op := range r.ops {
			i := base(r, op)
			for _, name := range []string{"D", "N", "M", "A"} {
				has := slices.Contains([]byte(r.regs), name[0])
				for _, v := range []int{0, 1, 30, 31, 32, -1, math.MaxInt, math.MinInt} {
					j := i
					*field(&j, name) = v
					if want := v == 0 || has && v > 0 && v < 32; inst.Is(j) != want {
						t.Errorf("Is(%v): %v", j, !want)
					}
				}
			}
			for _, m := range []uint64{0, 1, 255, 5, math.MaxUint64, math.MaxUint64 - 1} {
				j := i
				j.Mask = m
				want := m == 0
				if r.shape == 3 {
					want = m == 1 || m == 255 || m == math.MaxUint64-1
				}
				if inst.Is(j) != want {
					t.Errorf("Is(%v): %v", j, !want)
				}
			}
		}
	}
}

func TestReadsWrites(t *testing.T) {
	for _, x := range []struct {
		i     api.Inst
		reads []int
		w     int
		ok    bool
	}{
		{api.Inst{Op: 1, D: 3}, nil, 3, true}, {api.Inst{Op: 1, D: 31}, nil, 0, false}, {api.Inst{Op: 2, D: 0}, nil, 0, true},
		{api.Inst{Op: 3, D: 3}, []int{3}, 3, true}, {api.Inst{Op: 3, D: 31}, nil, 0, false},
		{api.Inst{Op: 4, D: 31, N: 2}, []int{2}, 31, true}, {api.Inst{Op: 5, D: 31, N: 31}, []int{31}, 31, true},
		{api.Inst{Op: 6, D: 31, N: 31}, []int{31}, 0, false}, {api.Inst{Op: 7, D: 31, N: 1}, []int{1}, 0, false}, {api.Inst{Op: 7, D: 9, N: 1}, []int{1}, 9, true},
		{api.Inst{Op: 8, D: 31, N: 31, Mask: 1}, nil, 31, true}, {api.Inst{Op: 9, D: 31, N: 4, Mask: 1}, []int{4}, 31, true}, {api.Inst{Op: 10, D: 31, N: 4, Mask: 1}, []int{4}, 31, true}, {api.Inst{Op: 11, D: 31, N: 4, Mask: 1}, []int{4}, 0, false},
		{api.Inst{Op: 12, D: 31, N: 2, M: 2}, []int{2}, 0, false}, {api.Inst{Op: 13, D: 1, N: 5, M: 2}, []int{2, 5}, 1, true}, {api.Inst{Op: 14, D: 1, N: 31, M: 2}, []int{2}, 1, true}, {api.Inst{Op: 19, D: 1, N: 3, M: 31}, []int{3}, 1, true},
		{api.Inst{Op: 20, D: 1, N: 9, M: 8, A: 7}, []int{7, 8, 9}, 1, true}, {api.Inst{Op: 21, D: 31, N: 8, M: 8, A: 31}, []int{8}, 0, false},
		{api.Inst{Op: 22, D: 1, N: 31}, []int{31}, 1, true}, {api.Inst{Op: 22, D: 31, N: 1}, []int{1}, 0, false},
		{api.Inst{Op: 23, D: 2, N: 31}, []int{2, 31}, 0, false}, {api.Inst{Op: 23, D: 31, N: 4}, []int{4}, 0, false},
		{api.Inst{Op: 24, D: 1, N: 1}, []int{1}, 1, true}, {api.Inst{Op: 25, D: 1, N: 31}, []int{1, 31}, 0, false}, {api.Inst{Op: 25, D: 31, N: 31}, []int{31}, 0, false},
		{api.Inst{Op: 26, D: 1}, nil, 1, true}, {api.Inst{Op: 26, D: 31}, nil, 0, false}, {api.Inst{Op: 27, D: 30}, nil, 30, true}, {api.Inst{Op: 28, D: 31}, nil, 0, false},
		{api.Inst{Op: 29}, nil, 0, false}, {api.Inst{Op: 30}, nil, 30, true}, {api.Inst{Op: 31, Cond: 3}, nil, 0, false},
		{api.Inst{Op: 32, D: 7}, []int{7}, 0, false}, {api.Inst{Op: 33, D: 0}, []int{0}, 0, false}, {api.Inst{Op: 33, D: 31}, nil, 0, false},
		{api.Inst{Op: 34, N: 4}, []int{4}, 0, false}, {api.Inst{Op: 35, N: 30}, []int{30}, 30, true}, {api.Inst{Op: 35, N: 31}, nil, 30, true}, {api.Inst{Op: 36, N: 31}, nil, 0, false}, {api.Inst{Op: 36, N: 30}, []int{30}, 0, false},
		{api.Inst{Op: 37, Imm: 9}, []int{0}, 0, false}, {api.Inst{Op: 38}, nil, 0, false},
		{api.Inst{Op: 39, D: 3, N: 2, M: 1, Cond: 4}, []int{1, 2}, 3, true}, {api.Inst{Op: 39, D: 31, N: 31, M: 31}, nil, 0, false},
		{api.Inst{Op: 12, D: 1, N: 2, M: 32}, nil, 0, false}, {api.Inst{Op: 8, D: 1, N: 2}, nil, 0, false}, {api.Inst{Op: 30, Imm: 2}, nil, 0, false}, {api.Inst{Op: 37, D: 1}, nil, 0, false}, {api.Inst{}, nil, 0, false}, {api.Inst{Op: 40, D: 1, N: 1}, nil, 0, false}, {api.Inst{Op: 12, D: -1, N: -1}, nil, 0, false},
	} {
		if l := inst.Reads(x.i); !slices.Equal(l, x.reads) {
			t.Errorf("Reads(%v): %v", x.i, l)
		}
		if w, ok := inst.Writes(x.i); w != x.w || ok != x.ok {
			t.Errorf("Writes(%v): %d, %v", x.i, w, ok)
		}
	}
}

// TestFollows holds P4.4: an operation is one of those of its name; registers renamed are read, and written, renamed.
func TestFollows(t *testing.T) {
	for _, r := range table() {
		for _, op := range r.ops {
			name, _ := inst.Name(op)
			if !slices.Contains(inst.Ops(name), op) {
				t.Errorf("%d is not one of %q", op, name)
			}
			i, j := base(r, op), base(r, op)
			for k, name := range r.regs {
				*field(&i, string(name)) = 5 + 2*k
				*field(&j, string(name)) = 20 - 3*k
			}
			renamed := func(n int) int {
				if n >= 5 && n <= 11 {
					return 20 - 3*(n-5)/2
				}
				return n
			}
			var want []int
			for _, n := range inst.Reads(i) {
				want = append(want, renamed(n))
			}
			slices.Sort(want)
			if l := inst.Reads(j); !slices.Equal(l, want) {
				t.Errorf("Reads(%v): %v, not %v", j, l, want)
			}
			v, ok := inst.Writes(i)
			w, yes := inst.Writes(j)
			if w != renamed(v) || ok != yes {
				t.Errorf("Writes(%v): %d, not %d", j, w, renamed(v))
			}
			if ok && v != 30 && v != i.D {
				t.Errorf("Writes(%v): %d", i, v)
			}
		}
	}
}
