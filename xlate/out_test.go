package xlate_test

import (
	"testing"

	"lych/api"
	"lych/xlate"
)

// P21.4, P21.6: the chapter's example.
func TestExample(t *testing.T) {
	x := tenant()
	x.Pool, x.Lo, x.Hi, x.Twices = []uint32{0x05050505}, 1024, 65535, nil
	u := xlate.New(x, 0)
	a, p, z := point(0x0a000002, 4000), point(0x05050505, 1024), point(far, 53)
	wantOut(t, u, datagram(a, z), p, z)
	wantIn(t, u, datagram(z, p), z, a)
}

// P21.4: a packet from an inside point that has no session makes one; those behind it have the same, wherever they go.
func TestSessionIsKept(t *testing.T) {
	for kind := range kinds {
		u := xlate.New(tenant(), 3)
		a, p := point(host, 4000), point(home, 1024)
		life := []uint32{30, 30, 4, 6, 6}[kind]
		state := []int{api.StateUp, api.StateUp, api.StateOpen, api.StateUp, api.StateUp}[kind]
		var peers []api.Point
		for i, z := range []api.Point{point(far, 53), point(far, 54), point(near, 1), point(0, 0), point(1<<32-1, 65535)} {
			x := spoken(kind, a, z)
			peer := z
			if x.isEcho() {
				z.Port, peer.Port = p.Port, p.Port
			}
			src, dst := id(x, p, z, p.Port)
			wantOut(t, u, x, src, dst)
			// Of an echo two of these points are one peer.
			if len(peers) == 0 || peers[len(peers)-1] != peer {
				peers = append(peers, peer)
			}
			wantSessions(t, u, session(x, p, 0, state, 3+uint32(i)+life, peers...))
			u.Tick()
		}
	}
}

// P21.4: a session is of one protocol and of one inside point, address and port.
func TestSessionsAreApart(t *testing.T) {
	x := tenant()
	x.Sess, x.Hi = 256, 65535
	u := xlate.New(x, 0)
	z := point(far, 53)
	for _, ip := range []uint32{host, other} {
		for _, port := range []int{4000, 4001, 4002} {
			for _, kind := range []int{isDatagram, isSegment, isAsking} {
				n := len(u.Sessions())
				for range 3 {
					if got, _ := u.Out(spoken(kind, point(ip, port), z).bytes()); got != api.CountOut || len(u.Sessions()) != n+1 {
						t.Fatalf("%x, %d, kind %d: %d, %d sessions, had %d", ip, port, kind, got, len(u.Sessions()), n)
					}
				}
			}
		}
	}
	wantUnlike(t, u)
}

// step is a segment from inside or from outside, and what its session is behind it.
type step struct {
	in    bool
	flags byte
	state int
	life  uint32
}

// P21.4, P21.6: a session's state and its end, segment by segment; between them a tick goes by.
func TestStates(t *testing.T) {
	const (
		open, up, closing = api.StateOpen, api.StateUp, api.StateClosing
		in, out           = api.BitIn, api.BitOut
	)
	for i, row := range [][]step{
		{{false, 2, open, 4}, {false, 2, open, 4}, {true, 18, up, 200}, {false, 16, up, 200}, {false, 17, up | in, 200}, {true, 16, up | in, 200}, {true, 17, closing | in | out, 2}, {false, 16, closing | in | out, 2}},
		{{false, 2, open, 4}, {true, 20, closing, 2}, {false, 16, closing, 2}},
		{{false, 2, open, 4}, {true, 18, up, 200}, {true, 1, up | out, 200}, {true, 1, up | out, 200}, {false, 4, closing | out, 2}, {false, 1, closing | in | out, 2}},
		{{false, 1, open | in, 4}, {true, 0, up | in, 200}, {true, 5, closing | in, 2}},
		{{false, 1, open | in, 4}, {true, 1, closing | in | out, 2}},
		{{false, 0, open, 4}, {true, 1, up | out, 200}, {false, 255, closing | out, 2}},
		{{false, 4, closing, 2}, {true, 18, closing, 2}, {false, 2, closing, 2}},
	} {
		u := xlate.New(tenant(), 0)
		a, p, z := point(host, 4000), point(home, 1024), point(near, 80)
		for now, s := range row {
			if s.in {
				wantIn(t, u, segment(z, p, s.flags), z, a)
			} else {
				wantOut(t, u, segment(a, z, s.flags), p, z)
			}
			want := session(segment(a, z, 0), p, 0, s.state, uint32(now)+s.life, z)
			if got := u.Sessions(); text(got) != text([]api.Sess{want}) {
				t.Fatalf("row %d, %d: %s; want %v", i, now, text(got), want)
			}
			u.Tick()
		}
	}
}

// P21.4: of more than MaxPeers the oldest goes; one that is spoken to again is the last one then.
func TestPeers(t *testing.T) {
	u := xlate.New(tenant(), 0)
	a, p := point(host, 4000), point(home, 1024)
	var want []api.Point
	for i := range 12 {
		z := point(far+uint32(i/2), 53+i)
		wantOut(t, u, datagram(a, z), p, z)
		want = append(want, z)
		wantSessions(t, u, session(datagram(a, z), p, 0, api.StateUp, 30, want[max(0, i-7):]...))
	}
	want = want[4:]
	wantOut(t, u, datagram(a, want[2]), p, want[2])
	want = []api.Point{want[0], want[1], want[3], want[4], want[5], want[6], want[7], want[2]}
	wantSessions(t, u, session(datagram(a, want[7]), p, 0, api.StateUp, 30, want...))
	// One that is seen as another from inside is told as it is; who only spoke from outside is none.
	wantOut(t, u, datagram(a, point(seen, 7)), p, point(far, 7))
	wantIn(t, u, datagram(point(near, 9), p), point(near, 9), a)
	wantSessions(t, u, session(datagram(a, want[0]), p, 0, api.StateUp, 30, append(want[1:], point(far, 7))...))
}

// P21.4: an echo's id, and its peer's port, are its outside point's.
func TestEchoOut(t *testing.T) {
	for _, kind := range []int{isAsking, isReply} {
		u := xlate.New(tenant(), 0)
		x := spoken(kind, point(host, 4001), point(near, 0))
		y := spoken(kind, point(host, 7003), point(seen, 0))
		wantOut(t, u, x, point(home, 1025), point(near, 1025))
		wantOut(t, u, y, point(home, 1027), point(far, 1027))
		wantSessions(t, u,
			session(x, point(home, 1025), 0, api.StateUp, 6, point(near, 1025)),
			session(y, point(home, 1027), 0, api.StateUp, 6, point(far, 1027)))
		// Of a static pair the id stays.
		wantOut(t, u, spoken(kind, point(server, 9), point(seen, 0)), point(public, 9), point(far, 9))
	}
}

// P21.4: an address that is A of a twice pair is its B outside; another one, B itself too, is as it is.
func TestTwices(t *testing.T) {
	x := tenant()
	x.Twices = []api.Pair{{A: seen, B: far}, {A: seen + 1, B: near}, {A: far, B: seen + 2}}
	u := xlate.New(x, 0)
	a, p := point(host, 4000), point(home, 1024)
	for seenAs, is := range map[uint32]uint32{seen: far, seen + 1: near, near: near, far: seen + 2, seen + 2: seen + 2, 1: 1, host: host} {
		wantOut(t, u, datagram(a, point(seenAs, 53)), p, point(is, 53))
		wantOut(t, u, segment(point(server, 9), point(seenAs, 53), 2), point(public, 9), point(is, 53))
	}
}

// P21.4: a static pair's inside address goes out as its other one, of each protocol, with its own port, and makes no session.
func TestStaticOut(t *testing.T) {
	x := tenant()
	x.Sess, x.Statics = 1, append(x.Statics, api.Pair{A: third, B: public + 1})
	u := xlate.New(x, 0)
	full := datagram(point(host, 4000), point(far, 53))
	opened(t, u, full, point(home, 1024))
	for kind := range kinds {
		for _, port := range []int{0, 7, 80, 1024, 65535} {
			for inside, outside := range map[uint32]uint32{server: public, third: public + 1} {
				y := spoken(kind, point(inside, port), point(seen, 53))
				src, dst := id(y, point(outside, port), point(far, 53), uint16(port))
				wantOut(t, u, y, src, dst)
			}
		}
	}
	wantSessions(t, u, session(full, point(home, 1024), 0, api.StateUp, 30, point(far, 53)))
	wantNot(t, u.Out, datagram(point(public, 80), point(far, 53)), api.CountTable)
}

// changed is settings that are unlike tenant's in each rule.
func changed() api.Tenant {
	x := tenant()
	x.Pool, x.Filter = []uint32{away}, api.FilterPort
	x.Statics = []api.Pair{{A: host, B: away + 9}, {A: third, B: away + 8}}
	x.Twices = []api.Pair{{A: seen, B: near}, {A: seen + 1, B: far}}
	return x
}

// P21.4, P21.9: a session of an older generation goes by that one's twice pairs, and keeps its outside point though its address is a static pair's now; what is new goes by the newest one's.
func TestOlderSessionOut(t *testing.T) {
	u := xlate.New(tenant(), 0)
	a, p := point(host, 4000), point(home, 1024)
	opened(t, u, datagram(a, point(seen, 1)), p)
	wantPut(t, u, changed(), 9, api.OK, 0, 1)
	wantOut(t, u, datagram(a, point(seen, 2)), p, point(far, 2))
	wantOut(t, u, datagram(a, point(seen+1, 3)), p, point(seen+1, 3))
	wantSessions(t, u, session(datagram(a, p), p, 0, api.StateUp, 30, point(far, 1), point(far, 2), point(seen+1, 3)))
	// Another port of that host, and another protocol, are new: the static pair's.
	wantOut(t, u, datagram(point(host, 4001), point(seen, 2)), point(away+9, 4001), point(near, 2))
	wantOut(t, u, segment(a, point(seen+1, 2), 2), point(away+9, 4000), point(far, 2))
	// An address that was a static pair's, and is none now, has sessions.
	wantOut(t, u, datagram(point(server, 8080), point(seen, 2)), point(away, 1024), point(near, 2))
	wantOut(t, u, datagram(point(third, 80), point(seen, 2)), point(away+8, 80), point(near, 2))
	if all := u.Sessions(); len(all) != 2 || all[1].Gen != 1 {
		t.Fatal(text(all))
	}
	ticks(u, 9)
	wantOut(t, u, datagram(a, point(seen, 2)), point(away+9, 4000), point(near, 2))
	wantSessions(t, u, session(datagram(point(server, 8080), a), point(away, 1024), 1, api.StateUp, 30, point(near, 2)))
}

// P21.4: just so many sessions have room as the newest settings' Sess says, whatever generation they are of.
func TestTable(t *testing.T) {
	z := point(far, 53)
	sized := func(n int) api.Tenant {
		x := tenant()
		x.Sess, x.Hi = n, 65535
		return x
	}
	from := func(i int) talk {
		return spoken([]int{isDatagram, isSegment}[i%2], point(0x0b000000+uint32(i), 4000), z)
	}
	u := xlate.New(sized(3), 0)
	makes := func(first, n int) {
		t.Helper()
		for i := range n {
			if got, _ := u.Out(from(first + i).bytes()); got != api.CountOut {
				t.Fatalf("%d of %d: %d", i, n, got)
			}
		}
		before := text(u.Sessions())
		wantNot(t, u.Out, from(first+n), api.CountTable)
		if text(u.Sessions()) != before {
			t.Fatalf("%s; was\n%s", text(u.Sessions()), before)
		}
	}
	makes(0, 3)
	wantOut(t, u, from(0), point(home, 1024), z)
	wantPut(t, u, sized(5), 9, api.OK, 0, 1)
	makes(3, 2)
	wantPut(t, u, sized(4), 9, api.OK, 0, 1, 2)
	makes(5, 0)
	wantPut(t, u, sized(256), 9, api.OK, 0, 1, 2, 3)
	makes(5, 251)
	ticks(u, 4)
	// The segments' sessions are gone: every second one.
	if len(u.Sessions()) != 128 {
		t.Fatal(len(u.Sessions()))
	}
	makes(1000, 128)
	wantUnlike(t, u)
}

// P21.4: a full table counts ahead of a pool without a free port.
func TestTableCountsAheadOfPool(t *testing.T) {
	x := tenant()
	x.Sess, x.Pool, x.Hi = 2, []uint32{home}, 1026
	u := xlate.New(x, 0)
	z := point(far, 53)
	opened(t, u, datagram(point(host, 4001), z), point(home, 1025))
	wantNot(t, u.Out, datagram(point(other, 4001), z), api.CountPool)
	opened(t, u, datagram(point(host, 4000), z), point(home, 1024))
	wantNot(t, u.Out, datagram(point(other, 4001), z), api.CountTable)
	if len(u.Sessions()) != 2 {
		t.Fatal(text(u.Sessions()))
	}
}

// P21.4: the pool's addresses are gone through in order, each from its lowest port on; protocols by themselves; without a free one nothing is made.
func TestPool(t *testing.T) {
	x := tenant()
	x.Sess = 256
	u := xlate.New(x, 0)
	z := point(far, 53)
	for _, kind := range []int{isDatagram, isSegment, isAsking} {
		for i, p := range []api.Point{point(home, 1024), point(home, 1026), point(second, 1024), point(second, 1026)} {
			opened(t, u, spoken(kind, point(host+uint32(i), 4000), z), p)
		}
		n := len(u.Sessions())
		wantNot(t, u.Out, spoken(kind, point(host+9, 4000), z), api.CountPool)
		wantNot(t, u.Out, spoken(kind, point(host+9, 80), z), api.CountPool)
		if len(u.Sessions()) != n {
			t.Fatal(text(u.Sessions()))
		}
		opened(t, u, spoken(kind, point(host+9, 4001), z), point(home, 1025))
	}
}

// P21.4: an outside port is like the inside one: even or odd, below 1024 or not.
func TestParityAndHalves(t *testing.T) {
	x := tenant()
	x.Lo, x.Hi, x.Sess = 1020, 1027, 256
	for want, first := range map[int]int{0: 1020, 2: 1020, 1: 1021, 53: 1021, 1022: 1020, 1023: 1021, 1024: 1024, 1025: 1025, 4000: 1024, 4001: 1025, 32768: 1024, 65534: 1024, 65535: 1025} {
		for _, kind := range []int{isDatagram, isSegment, isAsking} {
			u := xlate.New(x, 0)
			for i := range 4 {
				p := point([]uint32{home, second}[i/2], first+i%2*2)
				opened(t, u, spoken(kind, point(host+uint32(i), want), point(far, 53)), p)
			}
			wantNot(t, u.Out, spoken(kind, point(third+9, want), point(far, 53)), api.CountPool)
		}
	}
}

// crowded is a unit in which host has a session at the second of the pool's addresses, as the first one had no even port left for it; both of other's sessions there end at tick 30.
func crowded(t *testing.T) *xlate.Unit {
	t.Helper()
	x := tenant()
	x.Sess = 256
	u := xlate.New(x, 0)
	z := point(far, 53)
	opened(t, u, datagram(point(other, 4000), z), point(home, 1024))
	opened(t, u, datagram(point(other, 4002), z), point(home, 1026))
	u.Tick()
	opened(t, u, datagram(point(host, 4000), z), point(second, 1024))
	return u
}

// P21.4: a second session of an inside address has its first one's outside address, and no other one, though others are free.
func TestSecondSession(t *testing.T) {
	u := crowded(t)
	z := point(far, 53)
	opened(t, u, datagram(point(host, 4001), z), point(second, 1025))
	opened(t, u, segment(point(host, 4000), z, 2), point(second, 1024))
	opened(t, u, echo(host, far, 4003), point(second, 1025))
	opened(t, u, datagram(point(third, 4001), z), point(home, 1025))
}

// P21.4: without a free port there none is made.
func TestSecondSessionWithoutPort(t *testing.T) {
	u := crowded(t)
	z := point(far, 53)
	opened(t, u, datagram(point(host, 4002), z), point(second, 1026))
	before := text(u.Sessions())
	wantNot(t, u.Out, datagram(point(host, 4004), z), api.CountPool)
	ticks(u, 29)
	// Now the first address is all free: host's are not to go there.
	if all := u.Sessions(); len(all) != 2 {
		t.Fatalf("%s; was\n%s", text(all), before)
	}
	wantNot(t, u.Out, datagram(point(host, 4004), z), api.CountPool)
	opened(t, u, datagram(point(third, 4004), z), point(home, 1024))
	u.Tick()
	// Host's are gone: the pool again.
	opened(t, u, datagram(point(host, 4004), z), point(home, 1026))
}

// P21.4: sessions of older generations bind no new one.
func TestSecondSessionOfNewestAlone(t *testing.T) {
	u := crowded(t)
	z := point(far, 53)
	x := tenant()
	x.Sess, x.Pool, x.Hi = 256, []uint32{home, second, away}, 1029
	wantPut(t, u, x, 100, api.OK, 0, 1)
	opened(t, u, datagram(point(host, 4002), z), point(home, 1028))
	opened(t, u, datagram(point(other, 4004), z), point(second, 1026))
	opened(t, u, datagram(point(other, 4006), z), point(second, 1028))
	wantNot(t, u.Out, datagram(point(other, 4008), z), api.CountPool)
	opened(t, u, datagram(point(third, 4008), z), point(away, 1024))
	opened(t, u, datagram(point(host, 4001), z), point(home, 1025))
	wantNot(t, u.Out, datagram(point(host, 4008), z), api.CountPool)
	gens := map[uint32]int{}
	for _, s := range u.Sessions() {
		gens[s.Gen]++
	}
	if gens[0] != 3 || gens[1] != 5 {
		t.Fatal(text(u.Sessions()))
	}
}

// P21.4: points that sessions of older generations have are not given out again.
func TestOlderPointsAreHeld(t *testing.T) {
	u := xlate.New(tenant(), 0)
	z := point(far, 53)
	for i := range 4 {
		opened(t, u, datagram(point(host+uint32(i), 4000), z), point([]uint32{home, second}[i/2], 1024+i%2*2))
	}
	wantPut(t, u, tenant(), 5, api.OK, 0, 1)
	wantNot(t, u.Out, datagram(point(host+4, 4000), z), api.CountPool)
	ticks(u, 4)
	wantNot(t, u.Out, datagram(point(host+4, 4000), z), api.CountPool)
	u.Tick()
	opened(t, u, datagram(point(host+4, 4000), z), point(home, 1024))
}
