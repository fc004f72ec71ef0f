package xlate_test

import (
	"testing"

	"lych/api"
	"lych/xlate"
)

// P21.8: sessions are told in order of keys: protocols, then addresses, then ports; in whatever order they were made.
func TestSessionsInOrder(t *testing.T) {
	x := tenant()
	x.Sess, x.Lo, x.Hi = 256, 1, 65535
	var order []talk
	for _, kind := range []int{isAsking, isSegment, isDatagram} {
		for _, ip := range []uint32{1, 255, 256, host, other, 1<<32 - 1} {
			for _, port := range []int{0, 1, 255, 256, 4000, 65535} {
				order = append(order, spoken(kind, point(ip, port), point(near, 53)))
			}
		}
	}
	r := random(8)
	for range 10 {
		u := xlate.New(x, 0)
		for _, i := range r.Perm(len(order)) {
			if n, _ := u.Out(order[i].bytes()); n != api.CountOut {
				t.Fatalf("%+v: %d", order[i], n)
			}
		}
		all := u.Sessions()
		if len(all) != len(order) {
			t.Fatal(len(all))
		}
		for i, s := range all {
			if s.Key != keyOf(order[i]) {
				t.Fatalf("%d: %v; want %v", i, s.Key, keyOf(order[i]))
			}
		}
		wantUnlike(t, u)
	}
}

// P21.8: held is what a generation that is there owns, draining ones too: its pool, its static pairs' outside addresses; and nobody else's.
func TestHolds(t *testing.T) {
	u := xlate.New(tenant(), 0)
	wantHolds(t, u, true, home, second, public)
	nobodys := []uint32{0, 1, host, other, third, server, far, seen, near, home + 2, public + 1, 1<<32 - 1}
	wantHolds(t, u, false, nobodys...)
	wantHolds(t, u, false, away, away+8, away+9)
	opened(t, u, datagram(point(host, 4000), point(far, 53)), point(home, 1024))
	wantPut(t, u, changed(), 3, api.OK, 0, 1)
	wantPut(t, u, pooled(1), 2, api.OK, 0, 1, 2)
	wantHolds(t, u, true, home, second, public, away, away+8, away+9, away+1)
	ticks(u, 2)
	wantHolds(t, u, true, home, second, public, away+1)
	wantHolds(t, u, false, away, away+8, away+9)
	u.Tick()
	wantHolds(t, u, true, away+1)
	wantHolds(t, u, false, home, second, public, away, away+8, away+9)
	wantHolds(t, u, false, nobodys...)
}

// P21.8: a session's outside address is held as long as the session is; it is one of its generation's besides.
func TestHoldsOfSession(t *testing.T) {
	u := xlate.New(tenant(), 0)
	x := datagram(point(host, 4000), point(far, 53))
	opened(t, u, x, point(home, 1024))
	wantPut(t, u, pooled(0), 40, api.OK, 0, 1)
	for range 30 {
		wantHolds(t, u, true, home)
		wantHair(t, u, datagram(point(other, 4000), point(home, 1024)), point(away, 1024), x.src)
		u.Tick()
	}
	ticks(u, 10)
	wantHolds(t, u, false, home)
	wantOut(t, u, datagram(point(other, 4000), point(home, 1024)), point(away, 1024), point(home, 1024))
}

// P21.5, P21.8: an address of several sessions is a session's till the last one of them is gone.
func TestAddressOfSeveralSessions(t *testing.T) {
	u := xlate.New(tenant(), 0)
	z := point(far, 53)
	opened(t, u, segment(point(host, 4000), z, 2), point(home, 1024))
	opened(t, u, echo(host, far, 4000), point(home, 1024))
	opened(t, u, datagram(point(host, 4000), z), point(home, 1024))
	x := elsewhere()
	x.Sess = 256
	wantPut(t, u, x, 100, api.OK, 0, 1)
	for now := range 30 {
		wantNot(t, u.Out, datagram(point(other, 4000), point(home, 1025)), api.CountNone)
		if want := 2 + min(1, max(0, 4-now)) + min(1, max(0, 6-now)); len(u.Sessions()) != want {
			t.Fatalf("at %d: %s", now, text(u.Sessions()))
		}
		u.Tick()
	}
	wantOut(t, u, datagram(point(other, 4000), point(home, 1025)), point(away, 1024), point(home, 1025))
}

// P21.9: no two sessions have one outside point, whatever generations, protocols and hosts they are of, and however often ports are given back.
func TestPointsAreUnlike(t *testing.T) {
	x := tenant()
	x.Sess, x.Lo, x.Hi = 256, 1000, 1047
	u := xlate.New(x, 0)
	r := random(9)
	for i := range 4000 {
		y := spoken(r.IntN(kinds), point(host+uint32(r.IntN(30)), 990+r.IntN(80)), point(far, 53))
		y.flags = one[byte](r, 0, 1, 4, 18)
		u.Out(y.bytes())
		if i%10 == 0 {
			u.Tick()
		}
		if i%500 == 0 {
			u.Put(x, uint32(r.IntN(80)))
		}
		if i%25 == 0 {
			wantUnlike(t, u)
		}
	}
	if len(u.Sessions()) < 50 {
		t.Fatal(len(u.Sessions()))
	}
}

// P21.9: one packet is translated under one generation: of each that has a session all that is told, out and in, is that one's; of generations that differ in all.
func TestOneGenerationEach(t *testing.T) {
	u := xlate.New(tenant(), 0)
	ages := make([]api.Tenant, 4)
	for i := range ages {
		x := tenant()
		x.Pool = []uint32{away + uint32(i)}
		x.Twices = []api.Pair{{A: seen, B: far + uint32(i)}, {A: seen + 1, B: far + uint32((i+1)%4)}}
		x.Filter = i % 3
		ages[i] = x
	}
	wantPut(t, u, ages[0], 0, api.OK, 1)
	for i, x := range ages {
		if i > 0 && u.Put(x, 50) != api.OK {
			t.Fatal(i)
		}
		opened(t, u, datagram(point(host+uint32(i), 4000), point(seen, 53)), point(away+uint32(i), 1024))
	}
	wantGens(t, u, 1, 2, 3, 4)
	for i := range ages {
		a, p := point(host+uint32(i), 4000), point(away+uint32(i), 1024)
		z, next := point(far+uint32(i), 53), point(far+uint32((i+1)%4), 53)
		wantOut(t, u, datagram(a, point(seen, 53)), p, z)
		wantIn(t, u, datagram(z, p), point(seen, 53), a)
		wantErrorIn(t, u, failure(next.Ip, p.Ip, datagram(p, z)), seen+1, a.Ip, a, point(seen, 53))
		wantErrorOut(t, u, failure(a.Ip, seen+1, datagram(point(seen, 53), a)), p.Ip, next.Ip, z, p)
		switch i % 3 {
		case api.FilterAny:
			wantIn(t, u, datagram(point(1, 1), p), point(1, 1), a)
		case api.FilterAddr:
			wantIn(t, u, datagram(point(z.Ip, 1), p), point(seen, 1), a)
			wantNot(t, u.In, datagram(next, p), api.CountFilter)
		case api.FilterPort:
			wantNot(t, u.In, datagram(point(z.Ip, 1), p), api.CountFilter)
		}
	}
}
