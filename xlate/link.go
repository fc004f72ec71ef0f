package xlate

import (
	"lych/api"
	"lych/sess"
)

// link is an inside point and the outside point that it is seen as, by a session or by a static pair; and the settings that rule what goes between them.
type link struct {
	inside, outside api.Point
	rules           *generation
	static          bool
	session         api.Sess // if it isn't static
}

// sessionLink tells a session's link: the session's own generation rules.
func (u *Unit) sessionLink(s api.Sess) link {
	return link{inside: s.Key.In, outside: s.Out, rules: u.generation(s.Gen), session: s}
}

// staticLink tells a static pair's link, of one port: only the newest generation's pairs are asked.
func (u *Unit) staticLink(inside, outside uint32, port uint16) link {
	return link{
		inside:  api.Point{Ip: inside, Port: port},
		outside: api.Point{Ip: outside, Port: port},
		rules:   u.newest(),
		static:  true,
	}
}

// byInside tells the link of an inside point, and whether there is one.
func (u *Unit) byInside(proto byte, at api.Point) (link, bool) {
	if s, ok := u.sessions.table.Find(api.Key{Proto: proto, In: at}); ok {
		return u.sessionLink(s), true
	}
	if outside, ok := there(u.newest().tenant.Statics, at.Ip); ok {
		return u.staticLink(at.Ip, outside, at.Port), true
	}
	return link{}, false
}

// byOutside tells the link of an outside point, and whether there is one.
func (u *Unit) byOutside(proto byte, at api.Point) (link, bool) {
	if s, ok := u.sessions.table.Out(proto, at); ok {
		return u.sessionLink(s), true
	}
	if inside, ok := back(u.newest().tenant.Statics, at.Ip); ok {
		return u.staticLink(inside, at.Ip, at.Port), true
	}
	return link{}, false
}

// made tells the link of an inside point that had none: a new session's.
func (u *Unit) made(proto byte, at api.Point) link {
	g := u.newest()
	must(u.sessions.table.Len() < g.tenant.Sess, api.CountTable)
	out, err := u.sessions.ports.Take(proto, u.poolOf(at.Ip), g.tenant.Lo, g.tenant.Hi, at.Port)
	must(err == api.OK, api.CountPool)
	s := api.Sess{Key: api.Key{Proto: proto, In: at}, Out: out, Gen: g.number, State: api.StateOpen, Until: u.Now()}
	u.sessions.add(s)
	return u.sessionLink(s)
}

// poolOf tells the outside addresses that a new session of an inside address may have: that of its sessions alone, once it has some, so that outside it stays one host.
func (u *Unit) poolOf(ip uint32) []uint32 {
	g := u.newest()
	for _, s := range u.sessions.all() {
		if s.Key.In.Ip == ip && s.Gen == g.number {
			return []uint32{s.Out.Ip}
		}
	}
	return g.tenant.Pool
}

// left tells a link's session of a packet that went from inside to that point.
func (u *Unit) left(l link, p packet, to api.Point) {
	if l.static {
		return
	}
	if p.isEcho() {
		to.Port = l.outside.Port
	}
	s := l.session
	s.Peers = sess.Peer(s.Peers, to)
	u.sessions.touch(s, p.flow.Flags, true)
}

// reached tells the link by which a packet from one outside point to another goes in, and tells its session of it.
func (u *Unit) reached(p packet, from, to api.Point) link {
	l, ok := u.byOutside(p.flow.Proto, to)
	must(ok, api.CountNone)
	if !l.static {
		must(sess.Allows(l.rules.tenant.Filter, l.session.Peers, from), api.CountFilter)
		u.sessions.touch(l.session, p.flow.Flags, false)
	}
	return l
}
