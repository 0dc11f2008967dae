package line

import (
	"cleat/api"
	"cleat/inst"
	"cleat/num"
)

// maker puts operands of a form into an instruction, one by one. What is wrong with them is only noted: one error goes ahead of the other, wherever it is.
type maker struct {
	form  form
	i     api.Inst
	need  api.Need
	regs  int
	wrong bool
	great bool
}

// add puts the next operand.
func (m *maker) add(o api.Opnd) {
	switch letters[o.Kind] {
	case 'r':
		m.reg(o)
	case 'n':
		m.number(o)
	case 's':
		m.symbol(o)
	case 'm':
		m.memory(o)
	case '=':
		m.need = api.Need{Kind: m.form.need, Sym: o.Sym, Add: o.Add, Minus: o.Minus, V: o.V}
	case 'l':
		m.lack(o)
	case 'h':
		m.shift(o)
	}
}

// lack notes that a symbol is needed.
func (m *maker) lack(o api.Opnd) {
	m.need = api.Need{Kind: m.form.need, Sym: o.Sym, Add: o.Add}
}

// reg puts a register into the next one of D, N, M and A that the operation has.
func (m *maker) reg(o api.Opnd) {
	place := m.regs
	if inst.Shape(m.form.op) == 13 {
		place = 1
	}
	m.regs++
	m.check(o, m.stack(place))
	switch place {
	case 0:
		m.i.D = o.Reg
	case 1:
		m.i.N = o.Reg
	case 2:
		m.i.M = o.Reg
	case 3:
		m.i.A = o.Reg
	}
}

// check notes a register 31 that is the stack's where it should not be, or is not where it should be.
func (m *maker) check(o api.Opnd, stack bool) {
	if o.Reg == 31 && o.Stack != stack {
		m.wrong = true
	}
}

// stack tells whether 31 is the stack's as D (0), or as N (1), or as another one.
func (m *maker) stack(place int) bool {
	switch m.form.op {
	case api.OpAddi, api.OpSubi:
		return place == 0 || place == 1
	case api.OpAddsi, api.OpSubsi:
		return place == 1
	case api.OpAndi, api.OpOrri, api.OpEori:
		return place == 0
	}
	return false
}

// signed tells a number as an int.
func (m *maker) signed(minus bool, v uint64) int {
	n, e := num.Signed(minus, v)
	if e != api.OK {
		m.great = true
	}
	return n
}

// number puts a number: as Mask, if the operation has one, else as Imm.
func (m *maker) number(o api.Opnd) {
	if inst.Shape(m.form.op) != 3 {
		m.i.Imm = m.signed(o.Minus, o.V)
		return
	}
	m.i.Mask = o.V
	if o.Minus {
		m.i.Mask = -o.V
	}
}

// symbol puts a condition, or notes what is needed.
func (m *maker) symbol(o api.Opnd) {
	if m.form.op != api.OpCsel {
		m.lack(o)
		return
	}
	n, e := Cond(o.Sym)
	if e != api.OK || o.Add != 0 {
		m.wrong = true
	}
	m.i.Cond = n
}

// memory puts a register as N, and a number, or notes what is needed.
func (m *maker) memory(o api.Opnd) {
	m.check(o, true)
	m.i.N = o.Reg
	if o.Sym != "" {
		m.lack(o)
		return
	}
	m.i.Imm = m.signed(o.Minus, o.V)
}

// shift puts a shift's kind, and how far it goes; beside an Imm only the first kind has a form.
func (m *maker) shift(o api.Opnd) {
	m.i.Amount = m.signed(false, o.V)
	if shape := inst.Shape(m.form.op); shape == 4 || shape == 5 {
		m.i.Shift = o.Reg
	} else if o.Reg != 0 {
		m.wrong = true
	}
}
