package asm

import (
	"cleat/api"
	"cleat/code"
	"cleat/lex"
	"cleat/line"
	"cleat/local"
	"cleat/num"
	"cleat/operand"
	"cleat/part"
	"cleat/pool"
)

// wordTok is the kind of a token that is a word.
const wordTok = 1

// section is a section that grows, with its literals, and the targets that wait for them.
type section struct {
	api.Sec
	pool  *pool.Pool
	waits []wait
}

// wait is a target, and the place in the pool of the literal that it means.
type wait struct {
	target int
	place  int
}

// Kinds of targets.
const (
	ofName = iota
	ofMark
	ofLit
)

// target is what a relocation means, till all symbols are known: a name, a local label as seen from a line, or a literal. A section's relocations have its place as their Sym meanwhile.
type target struct {
	kind int
	no   int
	up   bool
	line int
}

// name is a name that came: how it was told (0: not at all), and where it is a label (Sec -1: nowhere).
type name struct {
	text string
	bind int
	sec  int
	off  int
}

// assembler is what is known of a text, line by line.
type assembler struct {
	line    int
	now     int // the section that grows; -1: none
	secs    []section
	marks   []api.Mark
	lits    []api.Sym
	names   []name
	places  map[string]int // of names
	targets []target
}

// fail throws an error at the line.
func (a *assembler) fail(e api.Errno) {
	panic(failure{e, a.line})
}

// check throws an error, unless ok.
func (a *assembler) check(ok bool, e api.Errno) {
	if !ok {
		a.fail(e)
	}
}

// pass throws an error, if it is one.
func (a *assembler) pass(e api.Errno) {
	a.check(e == api.OK, e)
}

// need throws, unless there is a section.
func (a *assembler) need() {
	a.check(a.now >= 0, api.ErrArg)
}

// take takes a line.
func (a *assembler) take(text string) {
	toks, e := lex.Line(text)
	a.pass(e)
	labels, toks, e := local.Split(toks)
	a.pass(e)
	if len(labels) > 0 {
		a.need()
	}
	for _, l := range labels {
		a.label(l)
	}
	if len(toks) == 0 {
		return
	}
	a.check(toks[0].Kind == wordTok, api.ErrForm)
	if do, ok := directives()[toks[0].Text]; ok {
		do(a, toks[1:])
		return
	}
	a.instruction(toks[0].Text, toks[1:])
}

// label lays a label where the section ends.
func (a *assembler) label(text string) {
	off := len(a.secs[a.now].Data)
	if no, e := num.Value(text); e == api.OK {
		a.marks = append(a.marks, api.Mark{No: int(no), Line: a.line, Sec: a.now, Off: off})
		return
	}
	n := &a.names[a.name(text)]
	a.check(n.sec < 0, api.ErrTwice)
	n.sec, n.off = a.now, off
}

// name tells a name's place; it comes now, if it did not before.
func (a *assembler) name(text string) int {
	at, ok := a.places[text]
	if !ok {
		at = len(a.names)
		a.places[text] = at
		a.names = append(a.names, name{text: text, sec: -1})
	}
	return at
}

// symbol tells the place of the target that a symbol is.
func (a *assembler) symbol(text string) int {
	if no, up, ok := operand.Label(text); ok {
		return a.target(target{ofMark, no, up, a.line})
	}
	return a.target(target{kind: ofName, no: a.name(text)})
}

// target puts a target behind all others, and tells its place.
func (a *assembler) target(t target) int {
	a.targets = append(a.targets, t)
	return len(a.targets) - 1
}

// operands reads operands.
func (a *assembler) operands(toks []api.Tok) []api.Opnd {
	l, e := operand.Parse(toks)
	a.pass(e)
	return l
}

// grow puts what grew in place of the section.
func (a *assembler) grow(s api.Sec, e api.Errno) {
	a.pass(e)
	a.secs[a.now].Sec = s
}

// instruction puts an instruction's word.
func (a *assembler) instruction(name string, toks []api.Tok) {
	i, need, e := line.Make(name, a.operands(toks))
	a.pass(e)
	_, _, label := operand.Label(need.Sym)
	a.check(need.Kind != api.NeedPool || !label, api.ErrForm)
	a.need()
	w, e := code.Encode(i)
	a.pass(e)
	s := &a.secs[a.now]
	switch need.Kind {
	case 0:
		a.grow(part.Word(s.Sec, w, 0, 0, 0))
	case api.NeedPool:
		a.grow(part.Word(s.Sec, w, api.RelLit, a.literal(s, need), 0))
	default:
		a.grow(part.Word(s.Sec, w, need.Kind, a.symbol(need.Sym), need.Add))
	}
}

// literal puts what is needed into a section's pool, and tells the place of the target that waits for it.
func (a *assembler) literal(s *section, need api.Need) int {
	place, e := s.pool.Put(need)
	a.pass(e)
	if need.Sym != "" {
		a.name(need.Sym)
	}
	at := a.target(target{kind: ofLit})
	s.waits = append(s.waits, wait{at, place})
	return at
}

// flush puts the literals of the section behind it.
func (a *assembler) flush() {
	s := &a.secs[a.now]
	lits := s.pool.Take()
	if len(lits) == 0 {
		return
	}
	for _, w := range s.waits {
		a.targets[w.target].no = len(a.lits) + w.place
	}
	s.waits = nil
	a.grow(part.Align(s.Sec, 3))
	for _, l := range lits {
		a.lits = append(a.lits, api.Sym{Bind: 1, Sec: a.now, Off: len(s.Data)})
		a.quad(l.V, l.Sym, l.Add)
	}
}

// quad puts eight bytes: of a number, or, if there is one, of a symbol.
func (a *assembler) quad(v uint64, sym string, add int) {
	at := -1
	if sym != "" {
		at = a.symbol(sym)
	}
	a.grow(part.Quad(a.secs[a.now].Sec, v, at, add))
}
