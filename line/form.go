package line

import "cleat/api"

// letters has the letter of each kind of an operand, by which forms are written.
const letters = "?rnsm=lh"

// kinds tells the letters of operands.
func kinds(l []api.Opnd) string {
	b := make([]byte, 0, len(l))
	for _, o := range l {
		kind := o.Kind
		if kind < 0 || kind >= len(letters) {
			kind = 0
		}
		b = append(b, letters[kind])
	}
	return string(b)
}

// form is the kinds of operands, their operation, and what kind of relocation a symbol among them needs.
type form struct {
	kinds string
	op    int
	need  int
}

// book has, for each name, what seeks the form that some kinds have; one without an operation, if they have none.
type book struct {
	seek map[string]func(kinds string) form
}

// among makes what seeks one of some forms.
func among(l ...form) func(kinds string) form {
	return func(kinds string) form {
		for _, f := range l {
			if f.kinds == kinds {
				return f
			}
		}
		return form{}
	}
}

func newBook() book {
	b := book{seek: map[string]func(kinds string) form{
		"ldr":  among(form{"rm", api.OpLdr, api.RelLong}, form{"rs", api.OpLdrl, api.RelLit}, form{"r=", api.OpLdrl, api.NeedPool}, form{"rn", api.OpLdrl, 0}),
		"str":  among(form{"rm", api.OpStr, api.RelLong}),
		"ldrb": among(form{"rm", api.OpLdrb, api.RelShort}),
		"strb": among(form{"rm", api.OpStrb, api.RelShort}),
		"adr":  oneReg(api.OpAdr, api.RelAdr),
		"adrp": oneReg(api.OpAdrp, api.RelPage),
		"cbz":  oneReg(api.OpCbz, api.RelNear),
		"cbnz": oneReg(api.OpCbnz, api.RelNear),
		"b":    goTo(api.OpB, api.RelCall),
		"bl":   goTo(api.OpBl, api.RelCall),
		"br":   among(form{"r", api.OpBr, 0}),
		"blr":  among(form{"r", api.OpBlr, 0}),
		"ret":  among(form{"r", api.OpRet, 0}, form{"", api.OpRet, 0}),
		"svc":  among(form{"n", api.OpSvc, 0}),
		"nop":  among(form{"", api.OpNop, 0}),
		"csel": among(form{"rrrs", api.OpCsel, 0}),
		"add":  among(form{"rrn", api.OpAddi, 0}, form{"rrnh", api.OpAddi, 0}, form{"rrl", api.OpAddi, api.RelAdd}, form{"rrr", api.OpAdd, 0}, form{"rrrh", api.OpAdd, 0}),
		"sub":  sum(api.OpSubi, api.OpSub),
		"adds": sum(api.OpAddsi, api.OpAdds),
		"subs": sum(api.OpSubsi, api.OpSubs),
		"and":  logic(api.OpAndi, api.OpAnd),
		"orr":  logic(api.OpOrri, api.OpOrr),
		"eor":  logic(api.OpEori, api.OpEor),
		"ands": logic(api.OpAndsi, api.OpAnds),
		"movz": wide(api.OpMovz),
		"movn": wide(api.OpMovn),
		"movk": wide(api.OpMovk),
		"madd": among(form{"rrrr", api.OpMadd, 0}),
		"msub": among(form{"rrrr", api.OpMsub, 0}),
	}}
	for _, cond := range conds {
		b.seek["b."+cond] = goTo(api.OpBc, api.RelNear)
	}
	return b
}

func oneReg(op, need int) func(kinds string) form {
	return among(form{"rs", op, need}, form{"rn", op, 0})
}

func goTo(op, need int) func(kinds string) form {
	return among(form{"s", op, need}, form{"n", op, 0})
}

func sum(short, long int) func(kinds string) form {
	return among(form{"rrn", short, 0}, form{"rrnh", short, 0}, form{"rrr", long, 0}, form{"rrrh", long, 0})
}

func logic(masked, long int) func(kinds string) form {
	return among(form{"rrn", masked, 0}, form{"rrr", long, 0}, form{"rrrh", long, 0})
}

func wide(op int) func(kinds string) form {
	return among(form{"rn", op, 0}, form{"rnh", op, 0})
}
