package xlate_test

import (
	"testing"

	"lych/api"
	"lych/xlate"
)

// pair is a unit in which host and other have a session each, of one kind: of host's the outside port is 1024, of other's 1026.
func pair(t *testing.T, x api.Tenant, kind int) (u *xlate.Unit, a, b talk) {
	t.Helper()
	u = xlate.New(x, 0)
	a, b = spoken(kind, point(host, 4000), point(far, 53)), spoken(kind, point(other, 5000), point(far, 53))
	opened(t, u, a, point(home, 1024))
	opened(t, u, b, point(home, 1026))
	u.Tick()
	return u, a, b
}

// P21.5: a packet to a session's outside point goes in again, from the source's outside point to the target's inside one; both sessions are told of it.
func TestHairpin(t *testing.T) {
	for _, kind := range []int{isDatagram, isBare, isSegment} {
		u, a, b := pair(t, tenant(), kind)
		x := spoken(kind, a.src, point(home, 1026))
		wantHair(t, u, x, point(home, 1024), b.src)
		life, states := uint32(30), [2]int{api.StateUp, api.StateUp}
		if kind == isSegment {
			// The target hears from outside, so it is up; the source has but spoken.
			life, states = 4, [2]int{api.StateOpen, api.StateUp}
		}
		want := session(b, point(home, 1026), 0, states[1], 31, b.dst)
		if kind == isSegment {
			want.Until = 201
		}
		wantSessions(t, u, session(a, point(home, 1024), 0, states[0], 1+life, a.dst, point(home, 1026)), want)
		// And back.
		u.Tick()
		wantHair(t, u, spoken(kind, b.src, point(home, 1024)), point(home, 1026), a.src)
		if all := u.Sessions(); all[0].State != api.StateUp || len(all[0].Peers) != 2 || len(all[1].Peers) != 2 || all[1].Peers[1] != point(home, 1024) {
			t.Fatal(text(all))
		}
	}
}

// P21.5: a new session's packet goes in again too.
func TestHairpinOfNewSession(t *testing.T) {
	u, _, b := pair(t, tenant(), isDatagram)
	x := datagram(point(third, 4001), point(home, 1026))
	wantHair(t, u, x, point(home, 1025), b.src)
	if all := u.Sessions(); len(all) != 3 || text(all[2:]) != text([]api.Sess{session(x, point(home, 1025), 0, api.StateUp, 31, x.dst)}) {
		t.Fatal(text(all))
	}
}

// P21.5: a target is of the packet's own protocol.
func TestHairpinOfAnotherProtocol(t *testing.T) {
	u, a, b := pair(t, tenant(), isDatagram)
	for _, kind := range []int{isSegment, isAsking} {
		x := spoken(kind, point(host, 1026), point(home, 1026))
		wantNot(t, u.Out, x, api.CountNone)
	}
	all := u.Sessions()
	if len(all) != 4 || text(all[2:]) != text([]api.Sess{session(a, point(home, 1024), 0, api.StateUp, 30, a.dst), session(b, point(home, 1026), 0, api.StateUp, 30, b.dst)}) {
		t.Fatal(text(all))
	}
}

// P21.5: states of both sides, segment by segment: the source's end is said from inside, the target's from outside.
func TestHairpinStates(t *testing.T) {
	u, a, b := pair(t, tenant(), isSegment)
	there, back := segment(a.src, point(home, 1026), 0), segment(b.src, point(home, 1024), 0)
	for i, s := range []struct {
		x      talk
		flags  byte
		states [2]int
		lives  [2]uint32
	}{
		{there, 2, [2]int{api.StateOpen, api.StateUp}, [2]uint32{4, 200}},
		{back, 18, [2]int{api.StateUp, api.StateUp}, [2]uint32{200, 200}},
		{there, 17, [2]int{api.StateUp | api.BitIn, api.StateUp | api.BitOut}, [2]uint32{200, 200}},
		{back, 17, [2]int{api.StateClosing | api.BitIn | api.BitOut, api.StateClosing | api.BitIn | api.BitOut}, [2]uint32{2, 2}},
	} {
		s.x.flags = s.flags
		if n, _ := u.Out(s.x.bytes()); n != api.CountHair {
			t.Fatalf("%d: %d", i, n)
		}
		for j, x := range u.Sessions() {
			if x.State != s.states[j] || x.Until != u.Now()+s.lives[j] {
				t.Fatalf("%d: %s at %d", i, text(u.Sessions()), u.Now())
			}
		}
		u.Tick()
	}
	u, a, _ = pair(t, tenant(), isSegment)
	wantHair(t, u, segment(a.src, point(home, 1026), 4), point(home, 1024), point(other, 5000))
	for _, x := range u.Sessions() {
		if x.State != api.StateClosing || x.Until != 3 {
			t.Fatal(text(u.Sessions()))
		}
	}
}

// P21.5: a packet to the source's own outside point comes back to it: it has been told of the packet by then, so it may come.
func TestHairpinToItself(t *testing.T) {
	for filter := range 3 {
		u := xlate.New(filtered(filter), 0)
		x := datagram(point(host, 4000), point(home, 1024))
		wantHair(t, u, x, point(home, 1024), point(host, 4000))
		wantSessions(t, u, session(x, point(home, 1024), 0, api.StateUp, 30, point(home, 1024)))
		y := segment(point(host, 4000), point(home, 1024), 1)
		wantHair(t, u, y, point(home, 1024), point(host, 4000))
		if s := u.Sessions()[0]; s.State != api.StateClosing|api.BitIn|api.BitOut || s.Until != 2 {
			t.Fatal(s)
		}
		z := echo(host, home, 1024)
		wantHair(t, u, z, point(home, 1024), point(host, 1024))
		// An echo to the id outside, of a session whose id inside is another one.
		z = echo(host, home, 1027)
		wantNot(t, u.Out, z, api.CountNone)
		wantSessions(t, u, session(echo(host, 0, 1024), point(home, 1024), 0, api.StateUp, 6, point(home, 1024)),
			session(z, point(home, 1025), 0, api.StateUp, 6, point(home, 1025)),
			session(y, point(home, 1024), 0, api.StateClosing|api.BitIn|api.BitOut, 2, point(home, 1024)),
			session(x, point(home, 1024), 0, api.StateUp, 30, point(home, 1024)))
	}
}

// P21.5: a packet to a static pair's outside address goes to its inside one, with its own port; from a session, from another pair, and from itself.
func TestHairpinToStatic(t *testing.T) {
	x := filtered(api.FilterPort)
	x.Statics = append(x.Statics, api.Pair{A: third, B: public + 1})
	u := xlate.New(x, 0)
	for _, kind := range []int{isDatagram, isBare, isSegment} {
		for _, port := range []int{0, 80, 1024, 65535} {
			wantHair(t, u, spoken(kind, point(host, 4000), point(public, port)), point(home, 1024), point(server, port))
			wantHair(t, u, spoken(kind, point(third, 7), point(public, port)), point(public+1, 7), point(server, port))
			wantHair(t, u, spoken(kind, point(server, 7), point(public, port)), point(public, 7), point(server, port))
		}
	}
	if all := u.Sessions(); len(all) != 2 || all[1].Peers[3] != point(public, 65535) {
		t.Fatal(text(all))
	}
	// The inside address is no outside one: it is out there.
	wantOut(t, u, datagram(point(host, 4000), point(server, 80)), point(home, 1024), point(server, 80))
}

// P21.5: an address that twice pairs make one of the tenant's own is gone in again by.
func TestHairpinByTwices(t *testing.T) {
	x := tenant()
	x.Twices = []api.Pair{{A: seen, B: public}, {A: seen + 1, B: home}, {A: public, B: far}}
	u, a, b := pair(t, x, isDatagram)
	wantHair(t, u, datagram(a.src, point(seen, 80)), point(home, 1024), point(server, 80))
	wantHair(t, u, datagram(a.src, point(seen+1, 1026)), point(home, 1024), b.src)
	// What is seen at the tenant's own address is another one's.
	wantOut(t, u, datagram(a.src, point(public, 80)), point(home, 1024), point(far, 80))
	if s := u.Sessions()[0]; text([]api.Sess{s}) != text([]api.Sess{session(a, point(home, 1024), 0, api.StateUp, 31, a.dst, point(public, 80), point(home, 1026), point(far, 80))}) {
		t.Fatal(s)
	}
	// The source isn't seen by them: it comes from its outside point.
	x.Twices = []api.Pair{{A: seen, B: home}}
	u, a, b = pair(t, x, isDatagram)
	wantHair(t, u, datagram(a.src, point(home, 1026)), point(home, 1024), b.src)
}

// P21.5: an echo to a session has the inside point's id on both sides; to a static pair that of the source's outside point.
func TestHairpinEchoes(t *testing.T) {
	for _, kind := range []int{isAsking, isReply} {
		x := tenant()
		x.Hi = 1031
		u, a, b := pair(t, x, kind)
		y := spoken(kind, point(host, 1026), point(home, 0))
		wantHair(t, u, y, point(home, 5000), b.src)
		// The id is the port that it goes to.
		wantNot(t, u.Out, spoken(kind, a.src, point(home, 0)), api.CountNone)
		wantHair(t, u, spoken(kind, point(third, 7001), point(public, 0)), point(home, 1025), point(server, 1025))
		wantHair(t, u, spoken(kind, point(server, 7), point(public, 0)), point(public, 7), point(server, 7))
		wantHair(t, u, spoken(kind, point(server, 1024), point(home, 0)), point(public, 4000), a.src)
		wantSessions(t, u,
			session(y, point(home, 1028), 0, api.StateUp, 7, point(home, 1028)),
			session(a, point(home, 1024), 0, api.StateUp, 7, point(far, 1024), point(home, 1024)),
			session(b, point(home, 1026), 0, api.StateUp, 7, point(far, 1026)),
			session(spoken(kind, point(third, 7001), a.dst), point(home, 1025), 0, api.StateUp, 7, point(public, 1025)))
	}
}

// P21.5: to an address that is the tenant's own, but of no session and no static pair, nothing goes on; the source's session is made, and kept, all the same.
func TestHairpinToNobody(t *testing.T) {
	for _, z := range []api.Point{point(home, 1025), point(home, 80), point(second, 1024), point(second, 0)} {
		u := xlate.New(tenant(), 0)
		x := datagram(point(host, 4000), z)
		wantNot(t, u.Out, x, api.CountNone)
		wantSessions(t, u, session(x, point(home, 1024), 0, api.StateUp, 30, z))
		u.Tick()
		wantNot(t, u.Out, x, api.CountNone)
		wantSessions(t, u, session(x, point(home, 1024), 0, api.StateUp, 31, z))
		wantNot(t, u.Out, datagram(point(server, 80), z), api.CountNone)
	}
}

// P21.5: a session whose filter doesn't let the source's outside point in isn't told of it; the source's session is made, and kept, all the same.
func TestHairpinFilters(t *testing.T) {
	for filter := range 3 {
		x := filtered(filter)
		x.Twices = nil
		// Other has spoken to far alone; then to another port of the source's outside address; then to its point.
		for i, spokenTo := range []api.Point{point(far, 53), point(home, 1026), point(home, 1025)} {
			for kind := range 2 {
				u := xlate.New(x, 0)
				b := spoken(kind, point(other, 5000), spokenTo)
				u.Out(b.bytes())
				target := session(b, point(home, 1024), 0, api.StateUp, 30, spokenTo)
				wantSessions(t, u, target)
				u.Tick()
				y := spoken(kind, point(host, 4001), point(home, 1024))
				source := session(y, point(home, 1025), 0, api.StateUp, 31, y.dst)
				if i >= filter {
					wantHair(t, u, y, point(home, 1025), b.src)
					target.Until = 31
				} else {
					wantNot(t, u.Out, y, api.CountFilter)
				}
				wantSessions(t, u, source, target)
			}
		}
		// A static pair's outside point is let in by whom it was spoken to by too.
		u, a, _ := pair(t, x, isDatagram)
		y := datagram(point(server, 9), point(home, 1024))
		if filter == api.FilterAny {
			wantHair(t, u, y, point(public, 9), a.src)
			continue
		}
		wantNot(t, u.Out, y, api.CountFilter)
		wantHair(t, u, datagram(a.src, point(public, 9)), point(home, 1024), point(server, 9))
		wantHair(t, u, y, point(public, 9), a.src)
	}
}

// P21.5: which filter is asked is told by the target's own generation.
func TestHairpinFilterOfGeneration(t *testing.T) {
	for older := range 3 {
		for newer := range 3 {
			u, a, b := pair(t, filtered(older), isDatagram)
			wantPut(t, u, filtered(newer), 9, api.OK, 0, 1)
			y := datagram(point(third, 4001), point(home, 1024))
			c := datagram(point(third+1, 4001), point(far, 53))
			opened(t, u, c, point(home, 1025))
			if older == api.FilterAny {
				wantHair(t, u, y, point(home, 1027), a.src)
			} else {
				wantNot(t, u.Out, y, api.CountFilter)
			}
			// From an older one to a newer one.
			y = datagram(b.src, point(home, 1025))
			if newer == api.FilterAny {
				wantHair(t, u, y, point(home, 1026), c.src)
			} else {
				wantNot(t, u.Out, y, api.CountFilter)
			}
		}
	}
}

// P21.5: a session's outside address is gone in again by though the newest settings don't own it any more; what else was owned by older ones isn't.
func TestHairpinToOlder(t *testing.T) {
	u, a, b := pair(t, tenant(), isDatagram)
	x := changed()
	x.Filter = api.FilterAny
	wantPut(t, u, x, 9, api.OK, 0, 1)
	// From a new session, from a static pair of the newest settings, from an older session.
	wantHair(t, u, datagram(point(other, 4000), point(home, 1024)), point(away, 1024), a.src)
	wantHair(t, u, datagram(point(third, 7), point(home, 1024)), point(away+8, 7), a.src)
	wantHair(t, u, datagram(b.src, point(home, 1024)), point(home, 1026), a.src)
	wantHair(t, u, datagram(a.src, point(home, 1024)), point(home, 1024), a.src)
	// And into a new one, and to the newest static pairs, of the older session's own outside point.
	wantHair(t, u, datagram(a.src, point(away, 1024)), point(home, 1024), point(other, 4000))
	wantHair(t, u, datagram(a.src, point(away+8, 9)), point(home, 1024), point(third, 9))
	// The address is a session's, but the point is nobody's; of another protocol too.
	wantNot(t, u.Out, datagram(a.src, point(home, 1025)), api.CountNone)
	wantNot(t, u.Out, segment(point(other, 1), point(home, 1024), 2), api.CountPool)
	wantNot(t, u.Out, segment(point(other, 4001), point(home, 1024), 2), api.CountNone)
	// Nobody's session has these: they are out there.
	wantOut(t, u, datagram(a.src, point(second, 1024)), point(home, 1024), point(second, 1024))
	wantOut(t, u, datagram(a.src, point(public, 80)), point(home, 1024), point(public, 80))
	ticks(u, 9)
	wantOut(t, u, datagram(point(other, 4000), point(home, 1024)), point(away, 1024), point(home, 1024))
}

// P21.5: a static pair of the newest settings at an older session's address: the session's point is the session's, all others are the pair's.
func TestHairpinToOlderSessionAndStatic(t *testing.T) {
	u, a, _ := pair(t, tenant(), isDatagram)
	x := elsewhere()
	x.Statics = []api.Pair{{A: server + 1, B: home}}
	wantPut(t, u, x, 9, api.OK, 0, 1)
	wantHair(t, u, datagram(point(third, 4000), point(home, 1024)), point(away, 1024), a.src)
	wantHair(t, u, datagram(point(third, 4000), point(home, 1025)), point(away, 1024), point(server+1, 1025))
	wantHair(t, u, segment(point(third, 4000), point(home, 1024), 2), point(away, 1024), point(server+1, 1024))
	wantIn(t, u, datagram(point(near, 1), point(home, 1024)), point(near, 1), a.src)
	wantIn(t, u, datagram(point(near, 1), point(home, 1025)), point(near, 1), point(server+1, 1025))
}

// P21.5: without room for the source's session nothing is asked of the target.
func TestHairpinWithoutSource(t *testing.T) {
	x := tenant()
	x.Sess, x.Pool = 2, []uint32{home}
	u, _, _ := pair(t, x, isDatagram)
	before := text(u.Sessions())
	for _, z := range []api.Point{point(home, 1024), point(home, 1025), point(public, 80)} {
		wantNot(t, u.Out, datagram(point(third, 4001), z), api.CountTable)
	}
	x.Sess = 3
	wantPut(t, u, x, 9, api.OK, 0, 1)
	for _, z := range []api.Point{point(home, 1024), point(home, 1025), point(public, 80)} {
		wantNot(t, u.Out, datagram(point(third, 4000), z), api.CountPool)
	}
	if text(u.Sessions()) != before {
		t.Fatalf("%s; was\n%s", text(u.Sessions()), before)
	}
}
