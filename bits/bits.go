// Package bits is layer 1: some bits of a word.
package bits

import "cleat/api"

// wordBits is how many bits a word has.
const wordBits = 32

// right tells whether the n bits from at on are a field of a word. Nothing is added: at and n may be of any greatness.
func right(at, n int) bool {
	return at >= 0 && at < wordBits && n >= 1 && n <= wordBits-at
}

// ones is a number of n ones, n being 0 to 32.
func ones(n int) uint32 {
	return uint32(uint64(1)<<n - 1)
}

// Field tells the n bits of w from the bit at on, as a number.
func Field(w uint32, at, n int) (uint32, api.Errno) {
	if !right(at, n) {
		return 0, api.ErrArg
	}
	return w >> at & ones(n), api.OK
}

// Word tells the word that has each field's V, and 0 in all other bits.
func Word(l ...api.Field) (uint32, api.Errno) {
	if !apart(l) {
		return 0, api.ErrArg
	}
	var w uint32
	for _, f := range l {
		if f.V&^ones(f.N) != 0 {
			return 0, api.ErrRange
		}
		w |= f.V << f.At
	}
	return w, api.OK
}

// apart tells whether all fields are right, and no two have a bit in common.
func apart(l []api.Field) bool {
	var taken uint32
	for _, f := range l {
		if !right(f.At, f.N) {
			return false
		}
		bits := ones(f.N) << f.At
		if taken&bits != 0 {
			return false
		}
		taken |= bits
	}
	return true
}

// Signed reads the n bits of v as a number with a sign.
func Signed(v uint32, n int) (int, api.Errno) {
	if !right(0, n) {
		return 0, api.ErrArg
	}
	if v&^ones(n) != 0 {
		return 0, api.ErrRange
	}
	if v>>(n-1) == 1 {
		return int(v) - 1<<n, api.OK
	}
	return int(v), api.OK
}

// Pack makes the n bits that Signed reads as v.
func Pack(v, n int) (uint32, api.Errno) {
	if !right(0, n) {
		return 0, api.ErrArg
	}
	half := 1 << (n - 1)
	if v < -half || v >= half {
		return 0, api.ErrRange
	}
	return uint32(v) & ones(n), api.OK
}

// Low tells the lowest n bits of v.
func Low(v uint64, n int) uint64 {
	if n <= 0 {
		return 0
	}
	if n >= 64 {
		return v
	}
	return v & (1<<n - 1)
}

// Rotate turns the size bits of v right by so many places.
func Rotate(v uint64, by, size int) (uint64, api.Errno) {
	if !isSize(size) || by < 0 || by >= size {
		return 0, api.ErrArg
	}
	if Low(v, size) != v {
		return 0, api.ErrRange
	}
	var turned uint64
	for at := range size {
		bit := v >> at & 1
		turned |= bit << ((at + size - by) % size)
	}
	return turned, api.OK
}

// isSize tells whether n is two to the power of 1 to 6.
func isSize(n int) bool {
	for power := range 6 {
		if n == 2<<power {
			return true
		}
	}
	return false
}
