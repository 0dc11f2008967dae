package asm

import (
	"strings"

	"cleat/api"
	"cleat/local"
	"cleat/part"
	"cleat/pool"
)

// Kinds of operands that directives have, and of a token that is a text.
const (
	numberOpnd = 2
	symbolOpnd = 3
	textTok    = 3
)

// directives tells what each directive does with its tokens.
func directives() map[string]func(*assembler, []api.Tok) {
	return map[string]func(*assembler, []api.Tok){
		".text":   (*assembler).text,
		".rodata": (*assembler).rodata,
		".data":   (*assembler).data,
		".global": (*assembler).global,
		".weak":   (*assembler).weak,
		".align":  (*assembler).align,
		".space":  (*assembler).space,
		".quad":   (*assembler).quads,
		".byte":   (*assembler).bytes,
		".ascii":  (*assembler).ascii,
		".pool":   (*assembler).literals,
	}
}

// isName tells whether an operand is a name alone.
func isName(o api.Opnd) bool {
	return o.Kind == symbolOpnd && o.Add == 0 && local.IsName(o.Sym)
}

// isCount tells whether an operand is a number that is not below 0.
func isCount(o api.Opnd) bool {
	return o.Kind == numberOpnd && !o.Minus
}

func (a *assembler) text(toks []api.Tok) { a.begin(1, toks) }

func (a *assembler) rodata(toks []api.Tok) { a.begin(2, toks) }

func (a *assembler) data(toks []api.Tok) { a.begin(3, toks) }

func (a *assembler) global(toks []api.Tok) { a.bind(2, toks) }

func (a *assembler) weak(toks []api.Tok) { a.bind(3, toks) }

// begin goes on with a section of a kind.
func (a *assembler) begin(kind int, toks []api.Tok) {
	l := a.operands(toks)
	keep := len(l) == 2 && isName(l[1]) && l[1].Sym == "keep"
	a.check((len(l) == 1 || keep) && isName(l[0]), api.ErrForm)
	a.now = a.find(l[0].Sym, kind)
	if keep {
		a.secs[a.now].Keep = true
	}
}

// find tells the place of the section of a name; a new one, if there is none.
func (a *assembler) find(name string, kind int) int {
	for k := range a.secs {
		if a.secs[k].Name == name {
			a.check(a.secs[k].Kind == kind, api.ErrTwice)
			return k
		}
	}
	a.check(len(a.secs) < api.MaxSecs, api.ErrLimit)
	s, e := part.New(name, kind, false)
	a.pass(e)
	a.secs = append(a.secs, section{Sec: s, pool: pool.New()})
	return len(a.secs) - 1
}

// bind tells how a name is bound.
func (a *assembler) bind(bind int, toks []api.Tok) {
	l := a.operands(toks)
	a.check(len(l) == 1 && isName(l[0]), api.ErrForm)
	n := &a.names[a.name(l[0].Sym)]
	a.check(n.bind == 0, api.ErrTwice)
	n.bind = bind
}

// count reads the one number of a directive, up to a greatest one.
func (a *assembler) count(toks []api.Tok, most uint64) int {
	l := a.operands(toks)
	a.check(len(l) == 1 && isCount(l[0]), api.ErrForm)
	a.need()
	a.check(l[0].V <= most, api.ErrRange)
	return int(l[0].V)
}

func (a *assembler) align(toks []api.Tok) {
	n := a.count(toks, api.MaxAlign)
	a.grow(part.Align(a.secs[a.now].Sec, n))
}

func (a *assembler) space(toks []api.Tok) {
	n := a.count(toks, api.MaxData)
	a.put(strings.Repeat("\x00", n))
}

// put puts bytes behind the section.
func (a *assembler) put(data string) {
	a.grow(part.Put(a.secs[a.now].Sec, data))
}

func (a *assembler) quads(toks []api.Tok) {
	l := a.operands(toks)
	a.check(len(l) > 0, api.ErrForm)
	for _, o := range l {
		a.check(o.Kind == numberOpnd || o.Kind == symbolOpnd, api.ErrForm)
	}
	a.need()
	for _, o := range l {
		if o.Minus {
			o.V = -o.V
		}
		a.quad(o.V, o.Sym, o.Add)
	}
}

func (a *assembler) bytes(toks []api.Tok) {
	l := a.operands(toks)
	a.check(len(l) > 0, api.ErrForm)
	for _, o := range l {
		a.check(isCount(o), api.ErrForm)
	}
	a.need()
	var b strings.Builder
	for _, o := range l {
		a.check(o.V <= 255, api.ErrRange)
		b.WriteByte(byte(o.V))
	}
	a.put(b.String())
}

func (a *assembler) ascii(toks []api.Tok) {
	a.check(len(toks) == 1 && toks[0].Kind == textTok, api.ErrForm)
	a.need()
	a.put(toks[0].Text)
}

func (a *assembler) literals(toks []api.Tok) {
	a.check(len(a.operands(toks)) == 0, api.ErrForm)
	a.need()
	a.flush()
}
