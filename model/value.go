// Package model is layer 29: code, run where no places are.
package model

import (
	"cleat/alu"
	"cleat/api"
	"cleat/flag"
	"cleat/inst"
)

// Kinds of values.
const (
	isPlain = 0
	isPlace = 1
	isPage  = 2
	isLost  = 3
)

// value is what a register has: a plain number, a spot in a unit, the page of one, or nothing that may be asked for.
type value interface {
	val() api.Val
}

type plain uint64

// spot is so many bytes into a unit.
type spot struct {
	sec int
	n   uint64
}

type page struct {
	spot
}

type lost struct{}

func (p plain) val() api.Val { return api.Val{N: uint64(p)} }

func (s spot) val() api.Val { return api.Val{Kind: isPlace, Sec: s.sec, N: s.n} }

func (p page) val() api.Val { return api.Val{Kind: isPage, Sec: p.sec, N: p.n} }

func (lost) val() api.Val { return api.Val{Kind: isLost} }

// of tells the value that a register's is.
func of(v api.Val) value {
	switch v.Kind {
	case isPlain:
		return plain(v.N)
	case isPlace:
		return spot{v.Sec, v.N}
	case isPage:
		return page{spot{v.Sec, v.N}}
	}
	return lost{}
}

func plainOf(v api.Val) (uint64, bool) {
	p, ok := of(v).(plain)
	return uint64(p), ok
}

func spotOf(v api.Val) (spot, bool) {
	s, ok := of(v).(spot)
	return s, ok
}

func isGone(v api.Val) bool {
	_, ok := of(v).(lost)
	return ok
}

// moved is a spot so many bytes on.
func (s spot) moved(by uint64) spot { return spot{s.sec, s.n + by} }

// Less tells how far a place is behind another one of the same unit, and the flags.
func Less(a, b api.Val) (api.Val, api.Flags, api.Errno) {
	p, one := spotOf(a)
	q, other := spotOf(b)
	if !one || !other || p.sec != q.sec {
		return api.Val{}, api.Flags{}, api.ErrStuck
	}
	v, f := flag.Sub(p.n, q.n)
	return plain(v).val(), f, api.OK
}

// Data tells the value and the flags that an instruction makes of values and flags.
func Data(i api.Inst, d, n, m, a api.Val, f api.Flags) (api.Val, api.Flags, api.Errno) {
	if !alu.Is(i) {
		return api.Val{}, api.Flags{}, api.ErrArg
	}
	if allPlain(i, d, n, m, a) {
		v, g, _ := alu.Do(i, api.Args{D: d.N, N: n.N, M: m.N, A: a.N}, f)
		return plain(v).val(), g, api.OK
	}
	switch i.Op {
	case api.OpAddi, api.OpSubi:
		return short(i, n, f)
	case api.OpAdd:
		return added(i, n, m, f)
	case api.OpSub, api.OpSubs:
		return taken(i, n, m, f)
	case api.OpOrr:
		zero, ok := plainOf(n)
		return whole(m, f, ok && zero == 0 && unshifted(i))
	case api.OpCsel:
		if holds, _ := flag.Holds(i.Cond, f); !holds {
			n = m
		}
		return whole(n, f, true)
	}
	return api.Val{}, api.Flags{}, api.ErrStuck
}

// allPlain tells whether all values that an instruction reads are plain.
func allPlain(i api.Inst, d, n, m, a api.Val) bool {
	shape := inst.Shape(i.Op)
	reads := func(v api.Val, yes bool) bool {
		_, ok := plainOf(v)
		return ok || !yes
	}
	last := shape >= 4 && shape <= 6 || shape == 16
	return reads(d, i.Op == api.OpMovk) && reads(n, shape == 2 || shape == 3 || last) && reads(m, last) && reads(a, shape == 6)
}

func unshifted(i api.Inst) bool { return i.Shift == 0 && i.Amount == 0 }

// whole tells a value as it is, if it may be so, and is not lost.
func whole(v api.Val, f api.Flags, ok bool) (api.Val, api.Flags, api.Errno) {
	if !ok || isGone(v) {
		return api.Val{}, api.Flags{}, api.ErrStuck
	}
	return v, f, api.OK
}

// moves tells a spot so many bytes on, or back, if it is one.
func moves(s spot, by uint64, back bool, f api.Flags, ok bool) (api.Val, api.Flags, api.Errno) {
	if back {
		by = -by
	}
	return whole(s.moved(by).val(), f, ok)
}

// short adds Imm to a place, or takes it away.
func short(i api.Inst, n api.Val, f api.Flags) (api.Val, api.Flags, api.Errno) {
	s, ok := spotOf(n)
	return moves(s, uint64(i.Imm)<<i.Amount, i.Op == api.OpSubi, f, ok)
}

// added adds a plain number to a place, either way round.
func added(i api.Inst, n, m api.Val, f api.Flags) (api.Val, api.Flags, api.Errno) {
	if s, ok := spotOf(n); ok {
		return shifted(i, s, m, f)
	}
	s, isSpot := spotOf(m)
	v, ok := plainOf(n)
	return moves(s, v, false, f, isSpot && ok && unshifted(i))
}

// shifted adds a plain number, shifted, to a place, or takes it away.
func shifted(i api.Inst, s spot, m api.Val, f api.Flags) (api.Val, api.Flags, api.Errno) {
	v, ok := plainOf(m)
	by, _ := flag.Shift(v, i.Shift, i.Amount)
	return moves(s, by, i.Op == api.OpSub, f, ok)
}

// taken takes a plain number away from a place, or one place from another one.
func taken(i api.Inst, n, m api.Val, f api.Flags) (api.Val, api.Flags, api.Errno) {
	s, isSpot := spotOf(n)
	if _, ok := plainOf(m); ok && isSpot && i.Op == api.OpSub {
		return shifted(i, s, m, f)
	}
	v, g, e := Less(n, m)
	if e != api.OK || !unshifted(i) {
		return api.Val{}, api.Flags{}, api.ErrStuck
	}
	if i.Op == api.OpSub {
		g = f
	}
	return v, g, api.OK
}
