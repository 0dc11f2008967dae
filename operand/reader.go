package operand

import (
	"cleat/api"
	"cleat/num"
)

// Kinds of tokens.
const (
	wordTok   = 1
	numberTok = 2
	signTok   = 4
	charTok   = 5
)

// Kinds of operands.
const (
	regOpnd     = 1
	numberOpnd  = 2
	symbolOpnd  = 3
	memoryOpnd  = 4
	literalOpnd = 5
	lowOpnd     = 6
	shiftOpnd   = 7
)

// wrong is what tokens that are no operands throw.
type wrong struct{}

// expr is an expression.
type expr interface {
	opnd() api.Opnd
}

// number is an expression that is a number.
type number struct {
	minus bool
	v     uint64
}

// symbol is an expression with a name.
type symbol struct {
	name string
	add  int
}

func (n number) opnd() api.Opnd { return api.Opnd{Kind: numberOpnd, Minus: n.minus, V: n.v} }

func (s symbol) opnd() api.Opnd { return api.Opnd{Kind: symbolOpnd, Sym: s.name, Add: s.add} }

// reader takes operands off tokens. Numbers that are too great are only noted, for wrong forms behind them come first.
type reader struct {
	toks  []api.Tok
	at    int
	great bool
}

func (r *reader) ended() bool { return r.at >= len(r.toks) }

// next is the token that stands next; of no kind behind the end.
func (r *reader) next() api.Tok {
	if r.ended() {
		return api.Tok{}
	}
	return r.toks[r.at]
}

// take takes a sign, if it stands next.
func (r *reader) take(sign string) bool {
	t := r.next()
	if t.Kind != signTok || t.Text != sign {
		return false
	}
	r.at++
	return true
}

// want takes a sign that has to stand next.
func (r *reader) want(sign string) {
	if !r.take(sign) {
		panic(wrong{})
	}
}

// operand takes one operand.
func (r *reader) operand() api.Opnd {
	t := r.next()
	switch {
	case t.Kind == wordTok && shiftKind(t.Text) >= 0:
		r.at++
		r.take("#")
		return api.Opnd{Kind: shiftOpnd, Reg: shiftKind(t.Text), V: r.plain()}
	case r.atReg():
		n, stack := r.reg()
		return api.Opnd{Kind: regOpnd, Reg: n, Stack: stack}
	case r.take("["):
		return r.memory()
	case r.take("="):
		o := r.expression().opnd()
		o.Kind = literalOpnd
		return o
	case r.take("#"):
		if r.take(":") {
			return r.low()
		}
		return r.number().opnd()
	case r.take(":"):
		return r.low()
	}
	return r.expression().opnd()
}

// atReg tells whether a register's name stands next.
func (r *reader) atReg() bool {
	_, _, e := Reg(r.next().Text)
	return r.next().Kind == wordTok && e == api.OK
}

// reg takes a register's name.
func (r *reader) reg() (int, bool) {
	if !r.atReg() {
		panic(wrong{})
	}
	n, stack, _ := Reg(r.next().Text)
	r.at++
	return n, stack
}

// memory takes what stands behind the bracket of a memory operand.
func (r *reader) memory() api.Opnd {
	o := api.Opnd{Kind: memoryOpnd}
	o.Reg, o.Stack = r.reg()
	if r.take("]") {
		return o
	}
	r.want(",")
	if r.take(":") {
		low := r.low()
		o.Sym, o.Add = low.Sym, low.Add
	} else {
		r.take("#")
		o.V = r.plain()
	}
	r.want("]")
	return o
}

// low takes what stands behind the first colon of low bits.
func (r *reader) low() api.Opnd {
	if t := r.next(); t.Kind != wordTok || t.Text != "lo12" {
		panic(wrong{})
	}
	r.at++
	r.want(":")
	s, ok := r.expression().(symbol)
	if !ok {
		panic(wrong{})
	}
	o := s.opnd()
	o.Kind = lowOpnd
	return o
}

// number takes a number, perhaps with a minus.
func (r *reader) number() number {
	minus := r.take("-")
	v := r.plain()
	return number{minus && v != 0, v}
}

// plain takes a number without a minus.
func (r *reader) plain() uint64 {
	if t := r.next(); t.Kind == charTok {
		r.at++
		return t.V
	}
	return r.digits()
}

// digits takes a number's token.
func (r *reader) digits() uint64 {
	t := r.next()
	if t.Kind != numberTok {
		panic(wrong{})
	}
	v, e := num.Value(t.Text)
	switch e {
	case api.OK:
	case api.ErrRange:
		r.great = true
	default:
		panic(wrong{})
	}
	r.at++
	return v
}

// expression takes an expression.
func (r *reader) expression() expr {
	t := r.next()
	_, _, label := Label(t.Text)
	if t.Kind == numberTok && label || t.Kind == wordTok && isName(t.Text) {
		r.at++
		return symbol{t.Text, r.added()}
	}
	return r.number()
}

// added takes what is added to a symbol.
func (r *reader) added() int {
	minus := r.take("-")
	if !minus && !r.take("+") {
		return 0
	}
	add, e := num.Signed(minus, r.digits())
	if e != api.OK {
		r.great = true
	}
	return add
}
