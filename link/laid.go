package link

import (
	"strings"

	"cleat/api"
	"cleat/fix"
	"cleat/veneer"
)

const (
	wordSize = 4
	quadSize = 8
)

// laid is what is left of units in a plan, all of which is right.
type laid struct {
	u      []api.Unit
	k      api.Kept
	p      api.Plan
	places []uint64 // of each unit: of what stands for it
	gates  map[api.Veneer]int
}

func newLaid(u []api.Unit, k api.Kept, p api.Plan) *laid {
	d := &laid{u: u, k: k, p: p, places: make([]uint64, len(u)), gates: map[api.Veneer]int{}}
	for n, at := range k.Live {
		d.places[at] = p.At[n]
	}
	for at, rep := range k.Rep {
		if rep >= 0 {
			d.places[at] = d.places[rep]
		}
	}
	for n, v := range p.Vens {
		d.gates[v] = n
	}
	return d
}

// place is where what stands for a unit is.
func (d *laid) place(at int) uint64 { return d.places[at] }

// gate is the veneer by which a ref of a unit would go.
func (d *laid) gate(at int, r api.Ref) api.Veneer {
	return api.Veneer{Sec: at, To: d.k.Rep[r.Sec], Add: r.Add}
}

// goal is where a ref of a unit leads: to a veneer, if it is a call and has one.
func (d *laid) goal(at int, r api.Ref) uint64 {
	n, ok := d.gates[d.gate(at, r)]
	if ok && r.Kind == api.RelCall {
		return d.p.VenAt[n]
	}
	return d.place(r.Sec) + uint64(r.Add)
}

// bytes makes the bytes of a unit that stands.
func (d *laid) bytes(at int) (string, error) {
	data := d.u[at].Data
	var b strings.Builder
	for n, r := range d.u[at].Refs {
		size := wordSize
		if r.Kind == api.RelAbs64 {
			size = quadSize
		}
		s, e := fix.Apply(r.Kind, data[r.At:r.At+size], d.place(at)+uint64(r.At), d.goal(at, r))
		if e != api.OK {
			return "", failure{e, at, n}
		}
		b.WriteString(data[b.Len():r.At])
		b.WriteString(s)
	}
	b.WriteString(data[b.Len():])
	if err := d.veneers(at, &b); err != nil {
		return "", err
	}
	return b.String(), nil
}

// veneers writes the code of a unit's veneers behind it.
func (d *laid) veneers(at int, b *strings.Builder) error {
	for n, v := range d.p.Vens {
		if v.Sec != at {
			continue
		}
		for b.Len()%wordSize != 0 {
			b.WriteByte(0)
		}
		s, e := veneer.Code(d.p.VenAt[n], d.place(v.To)+uint64(v.Add))
		if e != api.OK {
			return failure{e, at, d.caller(v)}
		}
		b.WriteString(s)
	}
	return nil
}

// caller is the first ref that goes to a veneer; -1, if none does.
func (d *laid) caller(v api.Veneer) int {
	for n, r := range d.u[v.Sec].Refs {
		if r.Kind == api.RelCall && d.gate(v.Sec, r) == v {
			return n
		}
	}
	return -1
}
