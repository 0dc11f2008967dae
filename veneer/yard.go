package veneer

import (
	"iter"
	"slices"

	"cleat/api"
	"cleat/place"
)

// yard is what is left of units, which is right, and the place of each in the row of those that stand (-1: none).
type yard struct {
	u     []api.Unit
	k     api.Kept
	where []int
}

func newYard(u []api.Unit, k api.Kept) *yard {
	y := &yard{u: u, k: k, where: slices.Repeat([]int{-1}, len(u))}
	for n, at := range k.Live {
		y.where[at] = n
	}
	return y
}

// stands tells whether a place is that of a unit that stands.
func (y *yard) stands(at int) bool {
	return at >= 0 && at < len(y.u) && y.where[at] >= 0
}

// isCode tells whether a place is that of code that stands.
func (y *yard) isCode(at int) bool {
	return y.stands(at) && y.u[at].Kind == 1
}

// end is how many bytes code has up to where its veneers may be.
func (y *yard) end(at int) int {
	return (len(y.u[at].Data) + wordSize - 1) / wordSize * wordSize
}

// lay tells the place of each unit that stands, and of each veneer.
func (y *yard) lay(o api.Options, v []api.Veneer) ([]uint64, []uint64) {
	counts := make([]int, len(y.u))
	for _, x := range v {
		counts[x.Sec]++
	}
	var text, data []api.Block
	for n, at := range y.k.Live {
		if y.u[at].Kind == 1 {
			text = append(text, api.Block{Size: y.end(at) + size*counts[at], Align: max(y.k.Align[n], 2)})
		} else {
			data = append(data, api.Block{Size: len(y.u[at].Data), Align: y.k.Align[n]})
		}
	}
	places, _, _ := place.Lay(text, o.Text)
	behind, _, _ := place.Lay(data, o.Data)
	places = append(places, behind...)
	return places, y.layVeneers(v, places)
}

// layVeneers tells the place of each veneer, behind its unit.
func (y *yard) layVeneers(v []api.Veneer, places []uint64) []uint64 {
	counts := make([]int, len(y.u))
	var l []uint64
	for _, x := range v {
		l = append(l, places[y.where[x.Sec]]+uint64(y.end(x.Sec)+size*counts[x.Sec]))
		counts[x.Sec]++
	}
	return l
}

// veneer is the one by which a ref of a unit would go.
func (y *yard) veneer(at int, r api.Ref) api.Veneer {
	return api.Veneer{Sec: at, To: y.k.Rep[r.Sec], Add: r.Add}
}

// goal is the place to which a veneer goes.
func (y *yard) goal(v api.Veneer, places []uint64) uint64 {
	return places[y.where[v.To]] + uint64(v.Add)
}

// wants tells the veneers that are not there, of calls that go too far.
func (y *yard) wants(o api.Options, v []api.Veneer, places []uint64) []api.Veneer {
	there := map[api.Veneer]int{}
	for n, x := range v {
		there[x] = n
	}
	var l []api.Veneer
	for n, at := range y.k.Live {
		if y.u[at].Kind != 1 {
			continue
		}
		for _, r := range y.u[at].Refs {
			x := y.veneer(at, r)
			if r.Kind != api.RelCall || place.Near(places[n]+uint64(r.At), y.goal(x, places), o.Reach) {
				continue
			}
			if _, ok := there[x]; !ok {
				there[x] = len(there)
				l = append(l, x)
			}
		}
	}
	return l
}

// rounds yields what is laid in each round, each with the veneers that the one ahead wanted.
func (y *yard) rounds(o api.Options) iter.Seq[api.Plan] {
	return func(yield func(api.Plan) bool) {
		var p api.Plan
		for more := true; more; {
			p.Rounds++
			p.At, p.VenAt = y.lay(o, p.Vens)
			if !yield(p) {
				return
			}
			wanted := y.wants(o, p.Vens, p.At)
			more = len(wanted) > 0
			p.Vens = append(p.Vens, wanted...)
		}
	}
}
