package asm

import (
	"cleat/api"
	"cleat/local"
)

// object makes the object of all lines.
func (a *assembler) object() api.Object {
	a.findMarks()
	a.line = 0
	for k := range a.secs {
		a.now = k
		a.flush()
	}
	syms := a.symbols()
	a.check(len(syms) <= api.MaxSyms, api.ErrLimit)
	o := api.Object{Syms: syms}
	for _, s := range a.secs {
		for k := range s.Rels {
			s.Rels[k].Sym = a.place(a.targets[s.Rels[k].Sym])
		}
		o.Secs = append(o.Secs, s.Sec)
	}
	return o
}

// findMarks finds the marks that local labels mean; it throws at the first line that needs one that is not there.
func (a *assembler) findMarks() {
	for k := range a.targets {
		t := &a.targets[k]
		if t.kind != ofMark {
			continue
		}
		at, ok := local.Find(a.marks, t.no, t.up, t.line)
		a.line = t.line
		a.check(ok, api.ErrName)
		t.no = at
	}
}

// symbols are those of all marks, then of all literals, then of all names.
func (a *assembler) symbols() []api.Sym {
	var l []api.Sym
	for _, m := range a.marks {
		l = append(l, api.Sym{Bind: 1, Sec: m.Sec, Off: m.Off})
	}
	l = append(l, a.lits...)
	for _, n := range a.names {
		l = append(l, n.symbol())
	}
	return l
}

// symbol is a name's symbol.
func (n name) symbol() api.Sym {
	bind := n.bind
	if bind == 0 && n.sec >= 0 {
		bind = 1
	}
	if bind == 0 {
		bind = 2
	}
	return api.Sym{Name: n.text, Bind: bind, Sec: n.sec, Off: n.off}
}

// place is the place of a target's symbol.
func (a *assembler) place(t target) int {
	switch t.kind {
	case ofMark:
		return t.no
	case ofLit:
		return len(a.marks) + t.no
	}
	return len(a.marks) + len(a.lits) + t.no
}
