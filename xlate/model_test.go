package xlate_test

import (
	"bytes"
	"fmt"
	"slices"
	"testing"

	"lych/api"
	"lych/xlate"
)

// last is the tick behind which no other one comes.
const last = 1<<31 - 1

// age is a generation of the model's.
type age struct {
	number uint32
	t      api.Tenant
	end    uint64
	drains bool
}

// model is a unit, told by plain means: lists that are gone through, one by one; nothing is kept beside them.
type model struct {
	now  uint32
	ages []age
	list []*api.Sess
}

func newModel(t api.Tenant, now uint32) *model {
	return &model{now: now, ages: []age{{t: t}}}
}

func (m *model) newest() age { return m.ages[len(m.ages)-1] }

func (m *model) age(number uint32) age {
	for _, a := range m.ages {
		if a.number == number {
			return a
		}
	}
	panic("no such generation")
}

func (m *model) gens() (list []uint32) {
	for _, a := range m.ages {
		list = append(list, a.number)
	}
	return list
}

// keep keeps the sessions, and the generations, of which it holds.
func (m *model) keep(s func(*api.Sess) bool, a func(age) bool) {
	m.list = slices.DeleteFunc(m.list, func(x *api.Sess) bool { return !s(x) })
	m.ages = slices.DeleteFunc(m.ages, func(x age) bool { return !a(x) })
}

// over lets the generations go whose end is now, or earlier.
func (m *model) over() {
	stays := func(a age) bool { return !a.drains || a.end > uint64(m.now) }
	m.keep(func(s *api.Sess) bool { return stays(m.age(s.Gen)) }, stays)
}

func (m *model) tick() {
	if m.now >= last {
		return
	}
	m.now++
	m.keep(func(s *api.Sess) bool { return s.Until > m.now }, func(age) bool { return true })
	m.over()
}

func (m *model) put(t api.Tenant, drain uint32) api.Errno {
	if len(m.ages) == 4 {
		return 150
	}
	old := &m.ages[len(m.ages)-1]
	old.drains, old.end = true, uint64(m.now)+uint64(drain)
	m.ages = append(m.ages, age{number: old.number + 1, t: t})
	m.over()
	return api.OK
}

// owns tells whether a tenant has an outside address.
func owns(t api.Tenant, ip uint32) bool {
	for _, p := range t.Statics {
		if p.B == ip {
			return true
		}
	}
	return slices.Index(t.Pool, ip) >= 0
}

// stands tells whether a session has an outside address.
func (m *model) stands(ip uint32) bool {
	return slices.ContainsFunc(m.list, func(s *api.Sess) bool { return s.Out.Ip == ip })
}

func (m *model) holds(ip uint32) bool {
	return m.stands(ip) || slices.ContainsFunc(m.ages, func(a age) bool { return owns(a.t, ip) })
}

// byA and byB tell the other address of the pair in which an address stands first, or second.
func byA(pairs []api.Pair, ip uint32) (uint32, bool) {
	i := slices.IndexFunc(pairs, func(p api.Pair) bool { return p.A == ip })
	if i < 0 {
		return 0, false
	}
	return pairs[i].B, true
}

func byB(pairs []api.Pair, ip uint32) (uint32, bool) {
	var turned []api.Pair
	for _, p := range pairs {
		turned = append(turned, api.Pair{A: p.B, B: p.A})
	}
	return byA(turned, ip)
}

// real and seen tell an address as it is, and as it is seen from inside.
func (a age) real(ip uint32) uint32 {
	if b, ok := byA(a.t.Twices, ip); ok {
		return b
	}
	return ip
}

func (a age) seen(ip uint32) uint32 {
	if b, ok := byB(a.t.Twices, ip); ok {
		return b
	}
	return ip
}

// find tells the session of an inside point, out that of an outside point; nil: none.
func (m *model) find(proto byte, at api.Point) *api.Sess {
	for _, s := range m.list {
		if s.Key.Proto == proto && s.Key.In == at {
			return s
		}
	}
	return nil
}

func (m *model) out(proto byte, at api.Point) *api.Sess {
	for _, s := range m.list {
		if s.Key.Proto == proto && s.Out == at {
			return s
		}
	}
	return nil
}

// all is all sessions, in order of keys.
func (m *model) all() (list []api.Sess) {
	for _, s := range m.list {
		list = append(list, *s)
	}
	slices.SortFunc(list, func(a, b api.Sess) int {
		return bytes.Compare(join([]byte{a.Key.Proto}, long(a.Key.In.Ip), word(a.Key.In.Port)), join([]byte{b.Key.Proto}, long(b.Key.In.Ip), word(b.Key.In.Port)))
	})
	return list
}

// first tells the counter that a packet's own bytes give it, or -1.
func first(x talk) int {
	switch {
	case x.flaw == isHeadSpoilt:
		return api.CountForm
	case x.ttl == 0 || x.ttl == 1:
		return api.CountTtl
	case x.frag%0x4000 != 0:
		return api.CountFrag
	case x.proto != 0:
		return api.CountProto
	case x.flaw == isBodySpoilt:
		return api.CountForm
	}
	return -1
}

// touch is what a packet with these flags does to a session.
func (m *model) touch(s *api.Sess, flags byte, bit int) {
	if s.Key.Proto != 6 {
		s.State, s.Until = 1, m.now+map[byte]uint32{17: 30, 1: 6}[s.Key.Proto]
		return
	}
	stands, bits := s.State%4, s.State-s.State%4
	switch {
	case flags&4 != 0:
		stands = 2
	case flags&1 != 0 && bits|bit == 12:
		stands, bits = 2, 12
	case flags&1 != 0:
		bits |= bit
		fallthrough
	default:
		if stands == 0 && bit == 8 {
			stands = 1
		}
	}
	s.State, s.Until = stands+bits, m.now+[]uint32{4, 200, 2}[stands]
}

// allows tells whether a filter lets one come to a session.
func allows(filter int, s *api.Sess, from api.Point) bool {
	for _, p := range s.Peers {
		if p == from || p.Ip == from.Ip && filter == api.FilterAddr {
			return true
		}
	}
	return filter == api.FilterAny
}

// added is a new session of an inside point, or nil and why there is none.
func (m *model) added(proto byte, in api.Point) (*api.Sess, int) {
	a := m.newest()
	if len(m.list) >= a.t.Sess {
		return nil, api.CountTable
	}
	pool := a.t.Pool
	for _, s := range m.all() {
		if s.Gen == a.number && s.Key.In.Ip == in.Ip {
			pool = []uint32{s.Out.Ip}
			break
		}
	}
	for _, ip := range pool {
		for port := int(a.t.Lo); port <= int(a.t.Hi); port++ {
			alike := port%2 == int(in.Port)%2 && port/1024 == 0 == (in.Port/1024 == 0)
			if alike && m.out(proto, point(ip, port)) == nil {
				s := &api.Sess{Key: api.Key{Proto: proto, In: in}, Out: point(ip, port), Gen: a.number}
				m.list = append(m.list, s)
				return s, -1
			}
		}
	}
	return nil, api.CountPool
}

// id is both points with one id in place of ports, if x is an echo.
func id(x talk, src, dst api.Point, id uint16) (api.Point, api.Point) {
	if x.isEcho() {
		src.Port, dst.Port = id, id
	}
	return src, dst
}

// sent is a counter and the bytes that go on.
func sent(x talk, counter int, src, dst api.Point, n uint16) (int, []byte) {
	src, dst = id(x, src, dst, n)
	return counter, x.goes(src, dst).bytes()
}

// fromInside is what becomes of a packet from inside.
func (m *model) fromInside(x talk) (int, []byte) {
	if n := first(x); n >= 0 {
		return n, nil
	}
	if x.kind == isError {
		return m.errorFromInside(x)
	}
	proto, a := protoOf(x.kind), m.newest()
	s := m.find(proto, x.src)
	if s != nil {
		a = m.age(s.Gen)
	}
	to := point(a.real(x.dst.Ip), int(x.dst.Port))
	var from api.Point
	if b, ok := byA(m.newest().t.Statics, x.src.Ip); ok && s == nil {
		from = point(b, int(x.src.Port))
	} else {
		if s == nil {
			var n int
			if s, n = m.added(proto, x.src); s == nil {
				return n, nil
			}
		}
		from = s.Out
		_, peer := id(x, from, to, from.Port)
		s.Peers = append(slices.DeleteFunc(s.Peers, func(p api.Point) bool { return p == peer }), peer)
		s.Peers = s.Peers[max(0, len(s.Peers)-8):]
		m.touch(s, x.flags, 4)
	}
	if !owns(m.newest().t, to.Ip) && !m.stands(to.Ip) {
		return sent(x, api.CountOut, from, to, from.Port)
	}
	if target := m.out(proto, to); target != nil {
		if !allows(m.age(target.Gen).t.Filter, target, from) {
			return api.CountFilter, nil
		}
		m.touch(target, x.flags, 8)
		return sent(x, api.CountHair, from, target.Key.In, target.Key.In.Port)
	}
	if ip, ok := byB(m.newest().t.Statics, to.Ip); ok {
		return sent(x, api.CountHair, from, point(ip, int(to.Port)), from.Port)
	}
	return api.CountNone, nil
}

// fromOutside is what becomes of a packet from outside.
func (m *model) fromOutside(x talk) (int, []byte) {
	if n := first(x); n >= 0 {
		return n, nil
	}
	if x.kind == isError {
		return m.errorFromOutside(x)
	}
	if s := m.out(protoOf(x.kind), x.dst); s != nil {
		a := m.age(s.Gen)
		if !allows(a.t.Filter, s, x.src) {
			return api.CountFilter, nil
		}
		m.touch(s, x.flags, 8)
		return sent(x, api.CountIn, point(a.seen(x.src.Ip), int(x.src.Port)), s.Key.In, s.Key.In.Port)
	}
	a := m.newest()
	if ip, ok := byB(a.t.Statics, x.dst.Ip); ok {
		return sent(x, api.CountIn, point(a.seen(x.src.Ip), int(x.src.Port)), point(ip, int(x.dst.Port)), x.dst.Port)
	}
	return api.CountNone, nil
}

// innerPoints is the protocol, and the points, of a packet that stands in an error.
func innerPoints(b []byte) (proto byte, src, dst api.Point) {
	ip := func(at int) uint32 { return uint32(wordAt(b, at))<<16 | uint32(wordAt(b, at+2)) }
	at := 4 * int(b[0]&15)
	if b[9] == 1 {
		n := wordAt(b, at+4)
		return 1, api.Point{Ip: ip(12), Port: n}, api.Point{Ip: ip(16), Port: n}
	}
	return b[9], api.Point{Ip: ip(12), Port: wordAt(b, at)}, api.Point{Ip: ip(16), Port: wordAt(b, at+2)}
}

func (m *model) errorFromInside(x talk) (int, []byte) {
	proto, far, i := innerPoints(x.inner)
	a, out := m.newest(), api.Point{}
	if s := m.find(proto, i); s != nil {
		a, out = m.age(s.Gen), s.Out
	} else if b, ok := byA(a.t.Statics, i.Ip); ok {
		out = point(b, int(i.Port))
	} else {
		return api.CountNone, nil
	}
	far.Ip = a.real(far.Ip)
	if proto == 1 {
		far.Port = out.Port
	}
	return api.CountOut, x.fails(out.Ip, a.real(x.dst.Ip), far, out).bytes()
}

func (m *model) errorFromOutside(x talk) (int, []byte) {
	proto, o, far := innerPoints(x.inner)
	a, in := m.newest(), api.Point{}
	if s := m.out(proto, o); s != nil {
		a, in = m.age(s.Gen), s.Key.In
	} else if ip, ok := byB(a.t.Statics, o.Ip); ok {
		in = point(ip, int(o.Port))
	} else {
		return api.CountNone, nil
	}
	far.Ip = a.seen(far.Ip)
	if proto == 1 {
		far.Port = in.Port
	}
	return api.CountIn, x.fails(a.seen(x.src.Ip), in.Ip, in, far).bytes()
}

// text is sessions as a text: no list and an empty one are one.
func text(list []api.Sess) string {
	all := ""
	for _, s := range list {
		all += fmt.Sprintln(s.Key.Proto, s.Key.In, s.Out, s.Gen, s.Peers, s.State, s.Until)
	}
	return all
}

// both is a Unit and a model that is told the same; each call holds the one to the other.
type both struct {
	t *testing.T
	u *xlate.Unit
	m *model
}

func newBoth(t *testing.T, x api.Tenant, now uint32) both {
	t.Helper()
	b := both{t, xlate.New(x, now), newModel(x, now)}
	b.same("New")
	return b
}

// same holds all that is told of the unit to the model.
func (b both) same(what string) {
	b.t.Helper()
	if got, want := text(b.u.Sessions()), text(b.m.all()); got != want {
		b.t.Fatalf("%s: Sessions:\n%swant\n%s", what, got, want)
	}
	if got, want := b.u.Gens(), b.m.gens(); !slices.Equal(got, want) || b.u.May() != (len(want) < 4) {
		b.t.Fatalf("%s: Gens %v, May %v; want %v", what, got, b.u.May(), want)
	}
	if b.u.Now() != b.m.now {
		b.t.Fatalf("%s: Now %d; want %d", what, b.u.Now(), b.m.now)
	}
}

// holds holds Holds of these addresses to the model.
func (b both) holds(list ...uint32) {
	b.t.Helper()
	for _, ip := range list {
		if got, want := b.u.Holds(ip), b.m.holds(ip); got != want {
			b.t.Fatalf("Holds(%x) = %v; want %v", ip, got, want)
		}
	}
}

// out and in hold a packet of either side to the model, and tell its counter.
func (b both) out(x talk) int {
	b.t.Helper()
	return b.told("Out", b.u.Out, b.m.fromInside, x)
}

func (b both) in(x talk) int {
	b.t.Helper()
	return b.told("In", b.u.In, b.m.fromOutside, x)
}

func (b both) told(what string, call func([]byte) (int, []byte), want func(talk) (int, []byte), x talk) int {
	b.t.Helper()
	packet := x.bytes()
	n, got := call(packet)
	m, packetWanted := want(x)
	if n != m || !bytes.Equal(got, packetWanted) {
		b.t.Fatalf("%s of %+v: %d,\n% x; want %d,\n% x", what, x, n, got, m, packetWanted)
	}
	b.same(what)
	return n
}

func (b both) tick() {
	b.t.Helper()
	b.u.Tick()
	b.m.tick()
	b.same("Tick")
}

func (b both) put(x api.Tenant, drain uint32) {
	b.t.Helper()
	if got, want := b.u.Put(x, drain), b.m.put(x, drain); got != want {
		b.t.Fatalf("Put = %v; want %v", got, want)
	}
	b.same("Put")
}
