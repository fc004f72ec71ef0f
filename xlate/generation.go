package xlate

import (
	"math"
	"slices"

	"lych/api"
)

// never is the end of a generation that doesn't drain: no tick comes to it.
const never = math.MaxUint64

// generation is settings of the tenant. Its end has room for any tick and any drain behind it.
type generation struct {
	number uint32
	tenant api.Tenant
	end    uint64
}

// newGeneration tells a generation that doesn't drain; t's lists stay the caller's.
func newGeneration(number uint32, t api.Tenant) *generation {
	t.Pool = append([]uint32(nil), t.Pool...)
	t.Statics = append([]api.Pair(nil), t.Statics...)
	t.Twices = append([]api.Pair(nil), t.Twices...)
	return &generation{number: number, tenant: t, end: never}
}

// newest tells the generation that rules what is new.
func (u *Unit) newest() *generation {
	return u.gens[len(u.gens)-1]
}

// generation tells the one of that number: a session's is there as long as the session is.
func (u *Unit) generation(number uint32) *generation {
	return u.gens[slices.IndexFunc(u.gens, func(g *generation) bool { return g.number == number })]
}

// endGenerations takes away the generations whose end has come, with all of their sessions.
func (u *Unit) endGenerations() {
	var stay []*generation
	for _, g := range u.gens {
		if g.end > uint64(u.Now()) {
			stay = append(stay, g)
		} else {
			u.sessions.dropGeneration(g.number)
		}
	}
	u.gens = stay
}

// real tells an address as it is, of one as it is seen from inside.
func (g *generation) real(ip uint32) uint32 {
	ip, _ = there(g.tenant.Twices, ip)
	return ip
}

// seen tells an address as it is seen from inside, of one as it is.
func (g *generation) seen(ip uint32) uint32 {
	ip, _ = back(g.tenant.Twices, ip)
	return ip
}

// there tells B of the pair whose A ip is, and that there is one; else ip.
func there(pairs []api.Pair, ip uint32) (uint32, bool) {
	for _, p := range pairs {
		if p.A == ip {
			return p.B, true
		}
	}
	return ip, false
}

// back tells A of the pair whose B ip is, and that there is one; else ip.
func back(pairs []api.Pair, ip uint32) (uint32, bool) {
	for _, p := range pairs {
		if p.B == ip {
			return p.A, true
		}
	}
	return ip, false
}
