package model

import "cleat/api"

const (
	wordSize  = 4
	quadSize  = 8
	stackSize = 4096
)

// stuck is what a step that can't be done throws.
type stuck struct{}

// must throws, unless ok.
func must(ok bool) {
	if !ok {
		panic(stuck{})
	}
}

// area is a unit, or the stack, while it runs: its bytes, what relocations lie over them, and which eight bytes hold a place.
type area struct {
	kind  int
	bytes []byte
	refs  map[uint64]api.Ref // by where they are; all but RelAbs64
	rels  []int              // of each byte the kind of the relocation over it, or 0
	held  map[uint64]spot    // by where their eight bytes begin
}

func newArea(kind int, data string) *area {
	return &area{kind: kind, bytes: []byte(data), refs: map[uint64]api.Ref{}, rels: make([]int, len(data)), held: map[uint64]spot{}}
}

// unitArea is the area of a right unit.
func unitArea(u api.Unit) *area {
	a := newArea(u.Kind, u.Data)
	for _, r := range u.Refs {
		at, size := uint64(r.At), wordSize
		if r.Kind == api.RelAbs64 {
			a.held[at] = goal(r)
			size = quadSize
		} else {
			a.refs[at] = r
		}
		for k := range size {
			a.rels[r.At+k] = r.Kind
		}
	}
	return a
}

// goal is where a ref leads.
func goal(r api.Ref) spot { return spot{r.Sec, uint64(r.Add)} }

// has tells whether all bytes from a place on, as many as size, are there.
func (a *area) has(at uint64, size int) bool {
	return len(a.bytes) >= size && at <= uint64(len(a.bytes)-size)
}

// word tells the word of code at a place, and throws, if there is none.
func (a *area) word(at uint64) uint32 {
	must(a.kind == 1 && at%wordSize == 0 && a.has(at, wordSize))
	for k := range uint64(wordSize) {
		must(a.rels[at+k] != api.RelAbs64)
	}
	return uint32(a.number(at, wordSize))
}

// number reads bytes, the lowest one first.
func (a *area) number(at uint64, size int) uint64 {
	var v uint64
	for k := range size {
		v |= uint64(a.bytes[at+uint64(k)]) << (8 * k)
	}
	return v
}

// free throws, if bytes are not all there, or are some of eight that hold a place, unless these are just they.
func (a *area) free(at uint64, size int) {
	must(a.has(at, size))
	for from := at - min(at, quadSize-1); from < at+uint64(size); from++ {
		_, holds := a.held[from]
		must(!holds || from == at && size == quadSize)
	}
}

// load tells the value of bytes: the place that they hold, or their number.
func (a *area) load(at uint64, size int) value {
	a.free(at, size)
	if s, ok := a.held[at]; ok {
		return s
	}
	return plain(a.number(at, size))
}

// store lays a value over bytes: a number, or, over eight, a place that they hold.
func (a *area) store(at uint64, size int, v value) {
	a.free(at, size)
	switch v := v.(type) {
	case plain:
		delete(a.held, at)
		for k := range size {
			a.bytes[at+uint64(k)] = byte(v >> (8 * k))
		}
	case spot:
		must(size == quadSize)
		a.held[at] = v
	default:
		panic(stuck{})
	}
}
