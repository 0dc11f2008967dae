package local_test

import (
	"math"
	"math/rand"
	"slices"
	"strings"
	"testing"

	"cleat/api"
	"cleat/lex"
	"cleat/local"
	"cleat/operand"
)

func TestIsName(t *testing.T) {
	for _, s := range []string{"a", "main", ".text", "_", "$1", "x31", "x01", "X1", "lo12", "eq", "keep", "Lsl", "SP", "xzr0", "nop", strings.Repeat("a", 31)} {
		if !local.IsName(s) {
			t.Errorf("IsName(%q): false", s)
		}
	}
	for _, s := range []string{"", "1", "1f", "12b", "x0", "x30", "sp", "xzr", "lsl", "lsr", "asr", "ror", "a b", "a+1", "-1", "\u00e9", "a\xff", strings.Repeat("a", 32)} {
		if local.IsName(s) {
			t.Errorf("IsName(%q): true", s)
		}
	}
}

func TestSplit(t *testing.T) {
	for _, x := range []struct {
		s      string
		labels []string
		left   string
		e      api.Errno
	}{
		{"", nil, "", api.OK}, {"nop", nil, "nop", api.OK}, {"1: a: b 1b", []string{"1", "a"}, "b 1b", api.OK}, {"a:", []string{"a"}, "", api.OK}, {"0001:9999:x31:", []string{"0001", "9999", "x31"}, "", api.OK},
		{"a: :", []string{"a"}, ":", api.OK}, {": a", nil, ": a", api.OK}, {"a : b", []string{"a"}, "b", api.OK}, {"\"a\": b", nil, "\"a\": b", api.OK}, {"'a': b", nil, "'a': b", api.OK}, {"nop a:", nil, "nop a:", api.OK}, {"#:lo12:a", nil, "#:lo12:a", api.OK}, {"lo12:a", []string{"lo12"}, "a", api.OK}, {"a: add x1, x2, :lo12:b", []string{"a"}, "add x1, x2, :lo12:b", api.OK},
		{"x1: nop", nil, "", api.ErrForm}, {"sp:", nil, "", api.ErrForm}, {"lsl: nop", nil, "", api.ErrForm}, {"1f: nop", nil, "", api.ErrForm}, {"12345: nop", nil, "", api.ErrForm}, {"0x1: nop", nil, "", api.ErrForm}, {"a: 1: xzr: nop", nil, "", api.ErrForm}, {strings.Repeat("a", 32) + ":", nil, "", api.ErrForm}, {"1a:", nil, "", api.ErrForm}, {"1.: nop", nil, "", api.ErrForm}, {"1$2:", nil, "", api.ErrForm},
	} {
		l, _ := lex.Line(x.s)
		given := slices.Clone(l)
		want, _ := lex.Line(x.left)
		labels, left, e := local.Split(l)
		if !slices.Equal(labels, x.labels) || !slices.Equal(left, want) || e != x.e {
			t.Errorf("Split(%q): %v, %v, %d", x.s, labels, left, e)
		}
		for k := range left {
			left[k] = api.Tok{}
		}
		if !slices.Equal(l, given) {
			t.Errorf("Split(%q): what is left is what was handed in", x.s)
		}
	}
	colon := api.Tok{Kind: 4, Text: ":", V: 7}
	for _, x := range []struct {
		t  api.Tok
		ok bool
	}{{api.Tok{Kind: 1, Text: "a", V: 5}, true}, {api.Tok{Kind: 2, Text: "12", V: 5}, true}, {api.Tok{Kind: 1, Text: "12"}, false}, {api.Tok{Kind: 2, Text: "a"}, false}, {api.Tok{Kind: 1}, false}, {api.Tok{Kind: 2}, false}} {
		labels, left, e := local.Split([]api.Tok{x.t, colon})
		if (e == api.OK) != x.ok || len(left) != 0 || x.ok != slices.Equal(labels, []string{x.t.Text}) || !x.ok && e != api.ErrForm {
			t.Errorf("Split(%v): %v, %v, %d", x.t, labels, left, e)
		}
	}
	for _, l := range [][]api.Tok{{{Kind: 3, Text: "a"}, colon}, {{Kind: 5, Text: "a"}, colon}, {{Kind: 1, Text: "a"}, {Kind: 1, Text: ":"}}, {{Kind: 1, Text: "x1"}, {Kind: 4, Text: ","}}, {{Kind: 1, Text: "x1"}}, {{Kind: 0, Text: "a"}, colon}} {
		if labels, left, e := local.Split(l); len(labels) != 0 || !slices.Equal(left, l) || e != api.OK {
			t.Errorf("Split(%v): %v, %v, %d", l, labels, left, e)
		}
	}
}

func mark(no, line int) api.Mark { return api.Mark{No: no, Line: line} }

func TestIs(t *testing.T) {
	for _, l := range [][]api.Mark{nil, {mark(0, 1)}, {mark(9999, 1), mark(0, 1), mark(5, 7)}, {{No: 1, Line: math.MaxInt, Sec: math.MaxInt, Off: math.MaxInt}}} {
		if !local.Is(l) {
			t.Errorf("Is(%v): false", l)
		}
	}
	for _, l := range [][]api.Mark{{mark(-1, 1)}, {mark(10000, 1)}, {mark(0, 0)}, {mark(0, -1)}, {mark(0, 2), mark(0, 1)}, {{No: 1, Line: 1, Sec: -1}}, {{No: 1, Line: 1, Off: -1}}, {mark(0, 1), mark(0, 5), mark(0, 4)}} {
		if local.Is(l) {
			t.Errorf("Is(%v): true", l)
		}
		for _, up := range []bool{false, true} {
			if at, ok := local.Find(l, 0, up, 1); at != 0 || ok {
				t.Errorf("Find(%v): %d, %v", l, at, ok)
			}
		}
	}
}

func TestFind(t *testing.T) {
	l := []api.Mark{mark(7, 2), mark(1, 3), mark(7, 5), mark(7, 5), mark(7, 9), mark(1, 9)}
	for _, x := range []struct {
		no   int
		up   bool
		line int
		at   int
		ok   bool
	}{
		{7, true, 5, 4, true}, {7, false, 5, 3, true}, {7, true, 4, 2, true}, {7, false, 4, 0, true}, {7, true, 1, 0, true}, {7, false, 1, 0, false}, {7, false, 2, 0, true}, {7, true, 9, 0, false}, {7, false, 9, 4, true}, {7, false, 100, 4, true}, {1, true, 3, 5, true}, {1, false, 8, 1, true}, {1, false, 9, 5, true}, {2, true, 1, 0, false}, {2, false, 99, 0, false}, {-1, true, 0, 0, false}, {math.MaxInt, false, 9, 0, false}, {7, true, math.MinInt, 0, true}, {7, false, math.MaxInt, 4, true}, {7, true, math.MaxInt, 0, false}, {7, false, math.MinInt, 0, false},
	} {
		given := slices.Clone(l)
		if at, ok := local.Find(l, x.no, x.up, x.line); at != x.at || ok != x.ok || !slices.Equal(l, given) {
			t.Errorf("Find(%d, %v, %d): %d, %v", x.no, x.up, x.line, at, ok)
		}
	}
	if at, ok := local.Find(nil, 1, true, 1); at != 0 || ok {
		t.Errorf("Find of none: %d, %v", at, ok)
	}
}

func TestText(t *testing.T) {
	for _, x := range []struct {
		no int
		up bool
		s  string
		e  api.Errno
	}{{0, true, "0f", api.OK}, {0, false, "0b", api.OK}, {9999, true, "9999f", api.OK}, {42, false, "42b", api.OK}, {10000, true, "", api.ErrArg}, {-1, false, "", api.ErrArg}, {math.MaxInt, true, "", api.ErrArg}, {math.MinInt, true, "", api.ErrArg}} {
		if s, e := local.Text(x.no, x.up); s != x.s || e != x.e {
			t.Errorf("Text(%d, %v): %q, %d", x.no, x.up, s, e)
		}
	}
	for no := range 10000 {
		s, _ := local.Text(no, no%2 == 0)
		if n, up, ok := operand.Label(s); n != no || up != (no%2 == 0) || !ok {
			t.Fatalf("Label(%q): %d, %v, %v", s, n, up, ok)
		}
	}
}

// TestFollows holds P14.4: what is found is the nearest one.
func TestFollows(t *testing.T) {
	r := rand.New(rand.NewSource(1))
	for range 500 {
		var l []api.Mark
		line := 1
		for range r.Intn(12) {
			line += r.Intn(3)
			l = append(l, mark(r.Intn(3), line))
		}
		no, at := r.Intn(3), r.Intn(line+2)
		up, upOK := local.Find(l, no, true, at)
		down, downOK := local.Find(l, no, false, at)
		for k, m := range l {
			if m.No != no {
				continue
			}
			if m.Line > at && (!upOK || k < up) || m.Line <= at && (!downOK || k > down) {
				t.Fatalf("%v: %d of %d: %d is nearer than %d, %d", l, no, at, k, up, down)
			}
		}
		if upOK && (l[up].No != no || l[up].Line <= at) || downOK && (l[down].No != no || l[down].Line > at) {
			t.Fatalf("%v: %d of %d: %d, %d", l, no, at, up, down)
		}
	}
}
