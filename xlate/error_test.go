package xlate_test

import (
	"testing"

	"lych/api"
	"lych/xlate"
)

// troubled is a unit with a session of each protocol of host's: its inside port is 4001, its outside one 1025.
func troubled(t *testing.T, x api.Tenant) *xlate.Unit {
	t.Helper()
	u := xlate.New(x, 0)
	for _, kind := range []int{isDatagram, isSegment, isAsking} {
		opened(t, u, spoken(kind, point(host, 4001), point(far, 53)), point(home, 1025))
	}
	u.Tick()
	return u
}

// errorOf is an error of that type and code, that says anything beside.
func errorOf(kind, code byte, src, dst uint32, about talk) talk {
	x := failure(src, dst, about)
	x.failed, x.flags, x.tos, x.id, x.frag, x.ttl = kind, code, 0x11, 0x2122, 0x4000, 9
	x.head = []byte{0x81, 0x82, 0x83, 0x84}
	return x
}

// P21.7: an error from inside about a packet that came to a session: the packet in it goes to the session's outside point, the error itself comes from its outside address; both sides' others are told as they are.
func TestErrorOutOfSession(t *testing.T) {
	for _, kind := range []byte{3, 11, 12} {
		u := troubled(t, tenant())
		before := text(u.Sessions())
		a, p := point(host, 4001), point(home, 1025)
		for inner := range kinds {
			for seenAs, is := range map[uint32]uint32{seen: far, far: far, near: near} {
				about := spoken(inner, point(seenAs, 53), a)
				from, to := point(is, 53), p
				if about.isEcho() {
					about.src.Port = a.Port
					from.Port = p.Port
				}
				wantErrorOut(t, u, errorOf(kind, 1, host, seen, about), home, far, from, to)
				wantErrorOut(t, u, errorOf(kind, 255, host, near, about), home, near, from, to)
				// From another host, even from outside: it is told as the session's.
				wantErrorOut(t, u, errorOf(kind, 0, 0x0a0000fe, far, about), home, far, from, to)
				wantErrorOut(t, u, errorOf(kind, 0, server, far, about), home, far, from, to)
			}
		}
		if text(u.Sessions()) != before {
			t.Fatalf("%s; was\n%s", text(u.Sessions()), before)
		}
	}
}

// P21.7: of a static pair the port, or the id, stays.
func TestErrorOutOfStatic(t *testing.T) {
	u := troubled(t, tenant())
	before := text(u.Sessions())
	for inner := range kinds {
		for _, port := range []int{0, 80, 65535} {
			about := spoken(inner, point(seen, 53), point(server, port))
			from := point(far, 53)
			if about.isEcho() {
				about.src.Port, from.Port = uint16(port), uint16(port)
			}
			wantErrorOut(t, u, errorOf(3, 3, server, seen, about), public, far, from, point(public, port))
			wantErrorOut(t, u, errorOf(3, 3, host, near, about), public, near, from, point(public, port))
		}
	}
	if text(u.Sessions()) != before {
		t.Fatalf("%s; was\n%s", text(u.Sessions()), before)
	}
}

// P21.7: about what is neither a session's nor a static pair's nothing goes on; none is made.
func TestErrorOutOfNobody(t *testing.T) {
	u := troubled(t, tenant())
	before := text(u.Sessions())
	z := point(far, 53)
	for inner := range kinds {
		for _, to := range []api.Point{point(host, 4002), point(host, 1025), point(other, 4001), point(home, 1025), point(public, 80), point(far, 53)} {
			about := spoken(inner, z, to)
			if about.isEcho() {
				about.src.Port = to.Port
			}
			wantNot(t, u.Out, errorOf(3, 1, host, far, about), api.CountNone)
			// Who sent it, and to whom, says nothing.
			wantNot(t, u.Out, errorOf(3, 1, server, public, about), api.CountNone)
			wantNot(t, u.Out, errorOf(3, 1, host, home, about), api.CountNone)
		}
		// From the session's inside point: it isn't asked.
		about := spoken(inner, point(host, 4001), point(near, 53))
		wantNot(t, u.Out, errorOf(3, 1, host, far, about), api.CountNone)
	}
	v := xlate.New(tenant(), 0)
	opened(t, v, datagram(point(host, 4001), z), point(home, 1025))
	wantNot(t, v.Out, errorOf(3, 1, host, far, segment(z, point(host, 4001), 2)), api.CountNone)
	wantNot(t, v.Out, errorOf(3, 1, host, far, echo(far, host, 4001)), api.CountNone)
	if text(u.Sessions()) != before || len(v.Sessions()) != 1 {
		t.Fatalf("%s; was\n%s", text(u.Sessions()), before)
	}
}

// P21.7: an error is never a hairpin: it goes out to the tenant's own addresses too.
func TestErrorIsNoHairpin(t *testing.T) {
	x := tenant()
	x.Twices = append(x.Twices, api.Pair{A: seen + 1, B: home})
	u := troubled(t, x)
	a, p := point(host, 4001), point(home, 1025)
	for _, own := range []uint32{home, second, public} {
		wantErrorOut(t, u, errorOf(3, 1, host, own, datagram(point(own, 1025), a)), home, own, point(own, 1025), p)
	}
	wantErrorOut(t, u, errorOf(3, 1, host, seen+1, datagram(point(seen+1, 1025), a)), home, home, point(home, 1025), p)
	wantErrorOut(t, u, errorOf(3, 1, server, public, datagram(point(home, 1), point(server, 9))), public, public, point(home, 1), point(public, 9))
}

// P21.7: an error from outside about a packet that a session sent: the packet in it comes from the session's inside point, the error itself goes to its inside address, past every filter; both sides' others are told as they are seen.
func TestErrorInToSession(t *testing.T) {
	for _, kind := range []byte{3, 11, 12} {
		for filter := range 3 {
			u := troubled(t, filtered(filter))
			before := text(u.Sessions())
			a, p := point(host, 4001), point(home, 1025)
			for inner := range kinds {
				for is, seenAs := range map[uint32]uint32{far: seen, seen: seen, near: near} {
					about := spoken(inner, p, point(is, 53))
					to := about.dst
					to.Ip = seenAs
					if about.isEcho() {
						to.Port = a.Port
					}
					wantErrorIn(t, u, errorOf(kind, 1, far, home, about), seen, host, a, to)
					wantErrorIn(t, u, errorOf(kind, 255, near, home, about), near, host, a, to)
					// To another address: it is told to the session's host.
					wantErrorIn(t, u, errorOf(kind, 0, 1, second, about), 1, host, a, to)
					wantErrorIn(t, u, errorOf(kind, 0, 1, public, about), 1, host, a, to)
				}
			}
			if text(u.Sessions()) != before {
				t.Fatalf("%s; was\n%s", text(u.Sessions()), before)
			}
		}
	}
}

// P21.7: of a static pair the port, or the id, stays.
func TestErrorInToStatic(t *testing.T) {
	u := troubled(t, filtered(api.FilterPort))
	before := text(u.Sessions())
	for inner := range kinds {
		for _, port := range []int{0, 80, 65535} {
			about := spoken(inner, point(public, port), point(far, 53))
			to := about.dst
			to.Ip = seen
			wantErrorIn(t, u, errorOf(3, 3, far, public, about), seen, server, point(server, port), to)
			wantErrorIn(t, u, errorOf(11, 0, near, home, about), near, server, point(server, port), to)
		}
	}
	if text(u.Sessions()) != before {
		t.Fatalf("%s; was\n%s", text(u.Sessions()), before)
	}
}

// P21.7: about what is neither a session's nor a static pair's nothing goes on.
func TestErrorInToNobody(t *testing.T) {
	u := troubled(t, tenant())
	before := text(u.Sessions())
	for inner := range kinds {
		for _, from := range []api.Point{point(home, 1024), point(home, 4001), point(second, 1025), point(host, 4001), point(server, 80), point(far, 53)} {
			about := spoken(inner, from, point(far, 53))
			wantNot(t, u.In, errorOf(3, 1, far, home, about), api.CountNone)
			wantNot(t, u.In, errorOf(3, 1, far, public, about), api.CountNone)
			wantNot(t, u.In, errorOf(3, 1, home, host, about), api.CountNone)
		}
		// To the session's outside point: it isn't asked.
		about := spoken(inner, point(near, 1025), point(home, 1025))
		wantNot(t, u.In, errorOf(3, 1, far, home, about), api.CountNone)
	}
	v := xlate.New(tenant(), 0)
	opened(t, v, datagram(point(host, 4001), point(far, 53)), point(home, 1025))
	wantNot(t, v.In, errorOf(3, 1, far, home, segment(point(home, 1025), point(far, 53), 2)), api.CountNone)
	wantNot(t, v.In, errorOf(3, 1, far, home, echo(home, far, 1025)), api.CountNone)
	if text(u.Sessions()) != before {
		t.Fatalf("%s; was\n%s", text(u.Sessions()), before)
	}
}

// P21.7, P21.9: the twice pairs of a session's own generation are asked, of a static pair the newest ones.
func TestErrorsOfGenerations(t *testing.T) {
	u := troubled(t, tenant())
	wantPut(t, u, changed(), 9, api.OK, 0, 1)
	a, p := point(host, 4001), point(home, 1025)
	for inner := range 3 {
		// host is a static pair's now, but its session comes first.
		wantErrorOut(t, u, errorOf(3, 1, host, seen, spoken(inner, point(seen, 53), a)), home, far, point(far, 53), p)
		wantErrorOut(t, u, errorOf(3, 1, host, seen+1, spoken(inner, point(seen+1, 53), a)), home, seen+1, point(seen+1, 53), p)
		wantErrorIn(t, u, errorOf(3, 1, far, home, spoken(inner, p, point(far, 53))), seen, host, a, point(seen, 53))
		wantErrorIn(t, u, errorOf(3, 1, near, home, spoken(inner, p, point(near, 53))), near, host, a, point(near, 53))
		wantErrorOut(t, u, errorOf(3, 1, host, seen, spoken(inner, point(seen, 53), point(host, 9))), away+9, near, point(near, 53), point(away+9, 9))
		wantErrorOut(t, u, errorOf(3, 1, host, seen+1, spoken(inner, point(seen+1, 53), point(third, 9))), away+8, far, point(far, 53), point(away+8, 9))
		wantErrorIn(t, u, errorOf(3, 1, far, away, spoken(inner, point(away+9, 9), point(far, 53))), seen+1, host, point(host, 9), point(seen+1, 53))
		wantErrorIn(t, u, errorOf(3, 1, near, away, spoken(inner, point(away+8, 9), point(near, 53))), seen, third, point(third, 9), point(seen, 53))
		wantNot(t, u.Out, errorOf(3, 1, server, far, spoken(inner, point(far, 53), point(server, 9))), api.CountNone)
		wantNot(t, u.In, errorOf(3, 1, far, public, spoken(inner, point(public, 9), point(far, 53))), api.CountNone)
	}
	ticks(u, 9)
	wantNot(t, u.In, errorOf(3, 1, far, home, datagram(p, point(far, 53))), api.CountNone)
	wantErrorOut(t, u, errorOf(3, 1, host, seen, datagram(point(seen, 53), a)), away+9, near, point(near, 53), point(away+9, 4001))
}

// P21.7: a session's point at a static pair's outside address is the session's.
func TestErrorInToSessionAheadOfStatic(t *testing.T) {
	u := troubled(t, tenant())
	x := elsewhere()
	x.Statics = []api.Pair{{A: server, B: home}}
	wantPut(t, u, x, 9, api.OK, 0, 1)
	wantErrorIn(t, u, errorOf(3, 1, near, home, datagram(point(home, 1025), point(near, 53))), near, host, point(host, 4001), point(near, 53))
	wantErrorIn(t, u, errorOf(3, 1, near, home, datagram(point(home, 1027), point(near, 53))), near, server, point(server, 1027), point(near, 53))
}

// P21.7: the packet in an error is told by its own header: with options, cut behind 8 bytes, its checksums wrong.
func TestErrorAboutPart(t *testing.T) {
	u := troubled(t, tenant())
	a, p := point(host, 4001), point(home, 1025)
	for inner := range kinds {
		about := spoken(inner, p, point(far, 53))
		about.head, about.body = []byte{1, 6, 17, 1}, nil
		to := about.dst
		to.Ip = seen
		if about.isEcho() {
			to.Port = a.Port
		}
		x := errorOf(3, 1, far, home, about)
		for _, n := range []int{32, len(x.inner)} {
			y := x
			y.inner = append([]byte(nil), x.inner[:n]...)
			wantErrorIn(t, u, y, seen, host, a, to)
			y.inner[10] ^= 0x5a
			y.inner[2] = 0xff
			wantErrorIn(t, u, y, seen, host, a, to)
		}
	}
}
