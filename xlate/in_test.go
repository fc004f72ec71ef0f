package xlate_test

import (
	"testing"

	"lych/api"
	"lych/xlate"
)

// P21.6: a packet to a session's outside point goes to its inside point, of each protocol; whoever sends it is no peer for that.
func TestSessionIn(t *testing.T) {
	for kind := range kinds {
		u := xlate.New(tenant(), 0)
		a, p, z := spoken(kind, point(host, 4000), point(near, 53)), point(home, 1024), point(near, 53)
		opened(t, u, a, p)
		u.Tick()
		for i, from := range []api.Point{z, point(near, 54), point(third, 0), point(0, 65535)} {
			x := spoken(kind, from, p)
			if x.isEcho() {
				x.src.Port, x.dst.Port = p.Port, p.Port
				from.Port, z.Port = 4000, p.Port
			}
			wantIn(t, u, x, from, a.src)
			life := []uint32{30, 30, 200, 6, 6}[kind]
			wantSessions(t, u, session(a, p, 0, api.StateUp, uint32(i)+1+life, z))
			u.Tick()
		}
	}
}

// P21.6: a point of another port, address or protocol is nobody's.
func TestNobodyIn(t *testing.T) {
	u := xlate.New(tenant(), 0)
	opened(t, u, datagram(point(host, 4000), point(far, 53)), point(home, 1024))
	before := text(u.Sessions())
	for _, p := range []api.Point{point(home, 1025), point(home, 1026), point(home, 0), point(second, 1024), point(host, 4000), point(server, 80), point(far, 1024), point(0, 0)} {
		for kind := range kinds {
			x := spoken(kind, point(far, 53), p)
			if x.isEcho() {
				x.src.Port, x.dst.Port = p.Port, p.Port
			}
			wantNot(t, u.In, x, api.CountNone)
		}
	}
	wantNot(t, u.In, segment(point(far, 53), point(home, 1024), 18), api.CountNone)
	wantNot(t, u.In, echo(far, home, 1024), api.CountNone)
	u.Tick()
	if text(u.Sessions()) != before {
		t.Fatalf("%s; was\n%s", text(u.Sessions()), before)
	}
}

// P21.6: an address that is B of a twice pair is its A inside; another one, A itself too, is as it is.
func TestTwicesIn(t *testing.T) {
	x := tenant()
	x.Twices = []api.Pair{{A: seen, B: far}, {A: seen + 1, B: near}, {A: far, B: seen + 2}}
	u := xlate.New(x, 0)
	a, p := point(host, 4000), point(home, 1024)
	opened(t, u, datagram(a, point(seen, 53)), p)
	for is, seenAs := range map[uint32]uint32{far: seen, near: seen + 1, seen + 2: far, seen: seen, seen + 1: seen + 1, 1: 1, home: home} {
		wantIn(t, u, datagram(point(is, 53), p), point(seenAs, 53), a)
		wantIn(t, u, segment(point(is, 53), point(public, 80), 2), point(seenAs, 53), point(server, 80))
	}
}

// P21.6: a packet to a static pair's outside address goes to its inside one, with its own port or id, past every filter; no session is made.
func TestStaticIn(t *testing.T) {
	for filter := range 3 {
		x := filtered(filter)
		x.Statics = append(x.Statics, api.Pair{A: third, B: public + 1})
		u := xlate.New(x, 0)
		for kind := range kinds {
			for _, port := range []int{0, 7, 80, 1024, 65535} {
				for inside, outside := range map[uint32]uint32{server: public, third: public + 1} {
					from, to := point(far, 53), point(outside, port)
					y := spoken(kind, from, to)
					if y.isEcho() {
						from.Port, y.src.Port, y.dst.Port = to.Port, to.Port, to.Port
					}
					wantIn(t, u, y, point(seen, int(from.Port)), point(inside, port))
				}
			}
		}
		wantSessions(t, u)
	}
}

// P21.6: an echo's id is the inside point's then, on both sides.
func TestEchoIn(t *testing.T) {
	u := xlate.New(filtered(api.FilterPort), 0)
	opened(t, u, echo(host, seen, 7001), point(home, 1025))
	for _, kind := range []int{isAsking, isReply} {
		x := spoken(kind, point(far, 1025), point(home, 0))
		wantIn(t, u, x, point(seen, 7001), point(host, 7001))
		wantNot(t, u.In, spoken(kind, point(far, 7001), point(home, 0)), api.CountNone)
		wantNot(t, u.In, spoken(kind, point(near, 1025), point(home, 0)), api.CountFilter)
	}
}

// P21.6: whom each filter lets in: anybody; whose address was spoken to; whose point was.
func TestFilters(t *testing.T) {
	for filter := range 3 {
		x := filtered(filter)
		x.Twices = nil
		for kind := range 3 {
			u := xlate.New(x, 0)
			a := spoken(kind, point(host, 4000), point(far, 53))
			opened(t, u, a, point(home, 1024))
			wantOut(t, u, spoken(kind, a.src, point(near, 80)), point(home, 1024), point(near, 80))
			u.Tick()
			for from, least := range map[api.Point]int{point(far, 53): 2, point(near, 80): 2, point(far, 54): 1, point(far, 80): 1, point(near, 53): 1, point(third, 53): 0, point(host, 4000): 0, point(home, 1024): 0} {
				before := text(u.Sessions())
				y := spoken(kind, from, point(home, 1024))
				if filter <= least {
					wantIn(t, u, y, from, a.src)
					continue
				}
				wantNot(t, u.In, y, api.CountFilter)
				if text(u.Sessions()) != before {
					t.Fatalf("filter %d, %v: %s; was\n%s", filter, from, text(u.Sessions()), before)
				}
			}
		}
	}
}

// P21.6: one that has been driven out of a session's peers isn't let in any more.
func TestFilterOfOldPeers(t *testing.T) {
	u := xlate.New(filtered(api.FilterPort), 0)
	a, p := point(host, 4000), point(home, 1024)
	for i := range 8 {
		wantOut(t, u, datagram(a, point(near, i)), p, point(near, i))
	}
	wantIn(t, u, datagram(point(near, 0), p), point(near, 0), a)
	wantOut(t, u, datagram(a, point(near, 8)), p, point(near, 8))
	wantNot(t, u.In, datagram(point(near, 0), p), api.CountFilter)
	wantIn(t, u, datagram(point(near, 1), p), point(near, 1), a)
}

// P21.6: the filter is asked of who it is, not of whom it is seen as: the peer is the one as it is, too.
func TestFilterByTwices(t *testing.T) {
	u := xlate.New(filtered(api.FilterAddr), 0)
	a, p := point(host, 4000), point(home, 1024)
	opened(t, u, datagram(a, point(seen, 53)), p)
	wantIn(t, u, datagram(point(far, 54), p), point(seen, 54), a)
	wantNot(t, u.In, datagram(point(seen, 53), p), api.CountFilter)
}

// P21.6: a session's own generation tells its filter and its twice pairs; a static pair goes by the newest one's.
func TestGenerationsIn(t *testing.T) {
	for older := range 3 {
		for newer := range 3 {
			u := xlate.New(filtered(older), 0)
			old, fresh := datagram(point(host, 4001), point(seen, 53)), datagram(point(other, 4000), point(seen, 53))
			opened(t, u, old, point(home, 1025))
			x := changed()
			x.Filter, x.Pool = newer, []uint32{home}
			wantPut(t, u, x, 9, api.OK, 0, 1)
			opened(t, u, fresh, point(home, 1024))
			for _, y := range []struct {
				filter   int
				from     api.Point
				to       talk
				p        api.Point
				least    int
				seenFrom uint32
			}{
				{older, point(far, 53), old, point(home, 1025), 2, seen},
				{older, point(far, 54), old, point(home, 1025), 1, seen},
				{older, point(near, 53), old, point(home, 1025), 0, near},
				{newer, point(near, 53), fresh, point(home, 1024), 2, seen},
				{newer, point(near, 54), fresh, point(home, 1024), 1, seen},
				{newer, point(far, 53), fresh, point(home, 1024), 0, seen + 1},
			} {
				if y.filter <= y.least {
					wantIn(t, u, datagram(y.from, y.p), point(y.seenFrom, int(y.from.Port)), y.to.src)
				} else {
					wantNot(t, u.In, datagram(y.from, y.p), api.CountFilter)
				}
			}
			wantIn(t, u, datagram(point(far, 1), point(away+9, 80)), point(seen+1, 1), point(host, 80))
			wantIn(t, u, datagram(point(near, 1), point(away+8, 80)), point(seen, 1), point(third, 80))
			// The pair of the older settings is none any more, though the unit holds its address.
			wantNot(t, u.In, datagram(point(far, 1), point(public, 80)), api.CountNone)
		}
	}
}
