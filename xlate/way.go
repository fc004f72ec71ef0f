package xlate

import (
	"lych/api"
	"lych/valid"
)

// out translates a packet from inside.
func (u *Unit) out(p packet) (int, []byte) {
	if p.isError() {
		return u.errorOut(p)
	}
	l, ok := u.byInside(p.flow.Proto, p.flow.Src)
	if !ok {
		l = u.made(p.flow.Proto, p.flow.Src)
	}
	to := api.Point{Ip: l.rules.real(p.flow.Dst.Ip), Port: p.flow.Dst.Port}
	u.left(l, p, to)
	if u.isOurs(to.Ip) {
		return u.hairpin(p, l.outside, to)
	}
	return api.CountOut, p.sent(l.outside, to, l.outside.Port)
}

// isOurs tells whether what goes to an address stays with the tenant.
func (u *Unit) isOurs(ip uint32) bool {
	return valid.Owns(u.newest().tenant, ip) || u.sessions.stand(ip)
}

// hairpin translates a packet from inside that goes in again, from one outside point to another.
func (u *Unit) hairpin(p packet, from, to api.Point) (int, []byte) {
	// Looked for now, for it may be the source's own session, which has just been told of the packet.
	l := u.reached(p, from, to)
	id := l.inside.Port
	if l.static {
		id = from.Port
	}
	return api.CountHair, p.sent(from, l.inside, id)
}

// in translates a packet from outside.
func (u *Unit) in(p packet) (int, []byte) {
	if p.isError() {
		return u.errorIn(p)
	}
	l := u.reached(p, p.flow.Src, p.flow.Dst)
	from := api.Point{Ip: l.rules.seen(p.flow.Src.Ip), Port: p.flow.Src.Port}
	return api.CountIn, p.sent(from, l.inside, l.inside.Port)
}

// errorOut translates an error from inside, about a packet that came to an inside point.
func (u *Unit) errorOut(p packet) (int, []byte) {
	from, to := p.flow.Inner[0], p.flow.Inner[1]
	l, ok := u.byInside(p.inner, to)
	must(ok, api.CountNone)
	from.Ip = l.rules.real(from.Ip)
	b := p.about(from, l.outside, l.outside.Port)
	return api.CountOut, b.errorSent(l.outside.Ip, l.rules.real(p.flow.Dst.Ip))
}

// errorIn translates an error from outside, about a packet that came from an outside point.
func (u *Unit) errorIn(p packet) (int, []byte) {
	from, to := p.flow.Inner[0], p.flow.Inner[1]
	l, ok := u.byOutside(p.inner, from)
	must(ok, api.CountNone)
	to.Ip = l.rules.seen(to.Ip)
	b := p.about(l.inside, to, l.inside.Port)
	return api.CountIn, b.errorSent(l.rules.seen(p.flow.Src.Ip), l.inside.Ip)
}
