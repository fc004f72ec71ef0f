package xlate_test

import (
	"testing"

	"lych/api"
	"lych/xlate"
)

// P21.1: one generation, number 0, at that tick, and no session.
func TestNew(t *testing.T) {
	for _, now := range []uint32{0, 1, 100, last - 1, last, last + 1, 1<<32 - 1} {
		u := xlate.New(tenant(), now)
		wantGens(t, u, 0)
		wantNow(t, u, now)
		wantSessions(t, u)
		wantHolds(t, u, true, home, second, public)
		wantHolds(t, u, false, host, server, far, seen, away, 0)
	}
}

// P21.1: with drain 0 the generation ahead is gone at once, with its sessions and their points.
func TestPutWithoutDrain(t *testing.T) {
	u := xlate.New(tenant(), 9)
	a, z := point(host, 4000), point(far, 53)
	opened(t, u, datagram(a, z), point(home, 1024))
	opened(t, u, segment(a, z, 2), point(home, 1024))
	opened(t, u, echo(host, far, 4000), point(home, 1024))
	wantPut(t, u, tenant(), 0, api.OK, 1)
	wantSessions(t, u)
	wantNot(t, u.In, datagram(z, point(home, 1024)), api.CountNone)
	wantNow(t, u, 9)
	// The points are free: another host has them now.
	for _, x := range []talk{datagram(point(other, 4000), z), segment(point(other, 4000), z, 2), echo(other, far, 4000)} {
		opened(t, u, x, point(home, 1024))
	}
	wantPut(t, u, elsewhere(), 0, api.OK, 2)
	wantSessions(t, u)
	wantHolds(t, u, false, home, second, public)
	wantHolds(t, u, true, away)
	opened(t, u, datagram(a, z), point(away, 1024))
	wantSessions(t, u, session(datagram(a, z), point(away, 1024), 2, api.StateUp, 39, z))
}

// P21.1, P21.2: with a drain the sessions stay till the end of their generation, and what is new is the newest's.
func TestPutDrains(t *testing.T) {
	for _, drain := range []int{1, 2, 7} {
		u := xlate.New(tenant(), 0)
		a, z := point(host, 4000), point(far, 53)
		old := datagram(a, z)
		opened(t, u, old, point(home, 1024))
		wantPut(t, u, elsewhere(), uint32(drain), api.OK, 0, 1)
		opened(t, u, datagram(point(other, 4000), z), point(away, 1024))
		for i := range drain {
			wantOut(t, u, old, point(home, 1024), z)
			wantIn(t, u, datagram(z, point(home, 1024)), point(seen, 53), a)
			wantGens(t, u, 0, 1)
			wantHolds(t, u, true, home, second, public, away)
			if all := u.Sessions(); len(all) != 2 || all[0].Gen != 0 || all[0].Until != uint32(i)+30 || all[1].Gen != 1 {
				t.Fatalf("%d of %d:\n%s", i, drain, text(all))
			}
			u.Tick()
		}
		wantGens(t, u, 1)
		wantHolds(t, u, false, home, second, public)
		wantSessions(t, u, session(datagram(point(other, 4000), z), point(away, 1024), 1, api.StateUp, 30, z))
		wantNot(t, u.In, datagram(z, point(home, 1024)), api.CountNone)
		wantOut(t, u, old, point(away, 1026), z)
	}
}

// drained tells a unit of four generations, whose ends are these; each has a session of its own, from that generation's number behind host.
func drained(t *testing.T, now uint32, first, second, third uint32) *xlate.Unit {
	t.Helper()
	u := xlate.New(pooled(0), now)
	sender(t, u, 0)
	for i, drain := range []uint32{first, second, third} {
		if err := u.Put(pooled(i+1), drain); err != api.OK {
			t.Fatal(i, err)
		}
		sender(t, u, i+1)
	}
	return u
}

// pooled is a tenant whose pool tells them apart by a number.
func pooled(n int) api.Tenant {
	x := elsewhere()
	x.Pool = []uint32{away + uint32(n)}
	return x
}

// speaker is a segment of the generation of that number: its session's Until is far off.
func speaker(n int) talk { return segment(point(host+uint32(n), 4000), point(far, 80), 16) }

// sender makes that session, and lets it be answered.
func sender(t *testing.T, u *xlate.Unit, n int) {
	t.Helper()
	opened(t, u, speaker(n), point(away+uint32(n), 1024))
	wantIn(t, u, segment(point(far, 80), point(away+uint32(n), 1024), 16), point(far, 80), point(host+uint32(n), 4000))
}

// wantAges holds a unit to the generations that are there, each with its session and its address, of four and those behind.
func wantAges(t *testing.T, u *xlate.Unit, want ...uint32) {
	t.Helper()
	wantGens(t, u, want...)
	all := u.Sessions()
	if len(all) != len(want) {
		t.Fatalf("%v:\n%s", want, text(all))
	}
	there := map[uint32]bool{}
	for i, n := range want {
		if all[i].Gen != n || all[i].Key != keyOf(speaker(int(n))) {
			t.Fatalf("%v:\n%s", want, text(all))
		}
		there[n] = true
	}
	for n := range uint32(8) {
		wantHolds(t, u, there[n], away+n)
	}
}

// P21.1: when there are MaxGens, Put is refused, whatever it is handed, and all is as it was; there is room behind the first end.
func TestPutBusy(t *testing.T) {
	for _, drain := range []uint32{0, 1, 5, 1<<32 - 1} {
		u := drained(t, 0, 9, 3, 4)
		before := text(u.Sessions())
		for _, x := range []api.Tenant{pooled(4), tenant(), {}} {
			wantPut(t, u, x, drain, api.ErrBusy, 0, 1, 2, 3)
			if text(u.Sessions()) != before {
				t.Fatalf("%s; was\n%s", text(u.Sessions()), before)
			}
			wantAges(t, u, 0, 1, 2, 3)
			wantHolds(t, u, false, home, public)
		}
		ticks(u, 2)
		wantPut(t, u, tenant(), drain, api.ErrBusy, 0, 1, 2, 3)
		u.Tick()
		wantAges(t, u, 0, 2, 3)
		wantPut(t, u, pooled(4), 9, api.OK, 0, 2, 3, 4)
		sender(t, u, 4)
		// What was refused has moved no end: those ahead, and the newest one then, end as they were told.
		u.Tick()
		wantAges(t, u, 0, 3, 4)
		ticks(u, 5)
		wantAges(t, u, 3, 4)
		ticks(u, 3)
		wantAges(t, u, 4)
	}
}

// P21.1: a program that is told very many settings tells their numbers one by one.
func TestNumbers(t *testing.T) {
	u := xlate.New(tenant(), 0)
	for n := range uint32(5000) {
		wantPut(t, u, tenant(), 0, api.OK, n+1)
	}
	wantPut(t, u, tenant(), 2, api.OK, 5000, 5001)
	wantPut(t, u, tenant(), 0, api.OK, 5000, 5002)
	wantPut(t, u, tenant(), 1, api.OK, 5000, 5002, 5003)
	wantPut(t, u, tenant(), 0, api.OK, 5000, 5002, 5004)
	u.Tick()
	wantGens(t, u, 5000, 5004)
	u.Tick()
	wantGens(t, u, 5004)
}

// P21.2: generations end at one tick, one by one, out of order, and between others at once: each at its own end, with its own sessions alone.
func TestEnds(t *testing.T) {
	for _, ends := range [][3]int{{3, 3, 3}, {1, 2, 3}, {3, 2, 1}, {2, 3, 1}, {3, 1, 3}, {1, 3, 1}, {2, 2, 1}, {1, 1, 1}, {7, 1, 4}, {9, 9, 1}} {
		u := drained(t, 5, uint32(ends[0]), uint32(ends[1]), uint32(ends[2]))
		for now := range 10 {
			var want []uint32
			for n, end := range ends {
				if end > now {
					want = append(want, uint32(n))
				}
			}
			wantAges(t, u, append(want, 3)...)
			u.Tick()
		}
	}
	u := drained(t, 5, 3, 2, 2)
	ticks(u, 2)
	wantAges(t, u, 0, 3)
	// The newest one goes at once, between others; what is told of those ahead stays.
	wantPut(t, u, pooled(4), 0, api.OK, 0, 4)
	sender(t, u, 4)
	wantAges(t, u, 0, 4)
	wantPut(t, u, pooled(5), 1, api.OK, 0, 4, 5)
	sender(t, u, 5)
	wantPut(t, u, pooled(6), 0, api.OK, 0, 4, 6)
	sender(t, u, 6)
	wantAges(t, u, 0, 4, 6)
	u.Tick()
	wantAges(t, u, 6)
	ticks(u, 20)
	wantAges(t, u, 6)
}

// P21.1: an end beyond all ticks doesn't come.
func TestEndsBeyond(t *testing.T) {
	for _, now := range []uint32{0, 1, 5, 1000, last - 50, last - 2} {
		for _, drain := range []uint32{1<<32 - 1, 1<<32 - 2, 1 << 31, last} {
			u := drained(t, now, drain, drain, drain)
			ticks(u, 40)
			wantAges(t, u, 0, 1, 2, 3)
		}
	}
}

// P21.2: with each Tick now is one more, up to the last tick: there nothing happens, nor beyond it.
func TestNow(t *testing.T) {
	for _, now := range []uint32{0, 1, 100, 1<<16 - 2, 1<<24 - 2, last - 5, last - 1, last} {
		u := xlate.New(tenant(), now)
		for i := range uint32(12) {
			wantNow(t, u, min(now+i, last))
			u.Tick()
		}
	}
	for _, now := range []uint32{last, last + 1, last + 2, 1<<32 - 300, 1<<32 - 1} {
		u := xlate.New(tenant(), now)
		x := segment(point(host, 4000), point(far, 80), 4)
		opened(t, u, x, point(home, 1024))
		wantPut(t, u, pooled(1), 1, api.OK, 0, 1)
		ticks(u, 10)
		wantNow(t, u, now)
		wantGens(t, u, 0, 1)
		wantSessions(t, u, session(x, point(home, 1024), 0, api.StateClosing, now+2, point(far, 80)))
		wantPut(t, u, pooled(2), 0, api.OK, 0, 2)
		wantPut(t, u, pooled(3), 1<<32-1, api.OK, 0, 2, 3)
		ticks(u, 10)
		wantGens(t, u, 0, 2, 3)
		wantOut(t, u, x, point(home, 1024), point(far, 80))
	}
}

// P21.2: what ends at the last tick is gone with it; what would end behind it stays.
func TestLastTick(t *testing.T) {
	u := xlate.New(tenant(), last-30)
	a, b, z := point(host, 4000), point(other, 4001), point(far, 53)
	opened(t, u, datagram(a, z), point(home, 1024))
	wantPut(t, u, tenant(), 30, api.OK, 0, 1)
	u.Tick()
	opened(t, u, datagram(b, z), point(home, 1025))
	wantPut(t, u, tenant(), 30, api.OK, 0, 1, 2)
	ticks(u, 28)
	wantNow(t, u, last-1)
	wantGens(t, u, 0, 1, 2)
	u.Tick()
	wantNow(t, u, last)
	wantGens(t, u, 1, 2)
	wantSessions(t, u, session(datagram(b, z), point(home, 1025), 1, api.StateUp, last+1, z))
	ticks(u, 100)
	wantGens(t, u, 1, 2)
	wantSessions(t, u, session(datagram(b, z), point(home, 1025), 1, api.StateUp, last+1, z))
}

// lived is a session by the packets that make it what it is: its life in ticks.
type lived struct {
	out  talk
	in   []byte // flags that come in behind it
	life int
}

func lives() []lived {
	a, z := point(host, 4000), point(far, 53)
	return []lived{
		{datagram(a, z), nil, 30},
		{spoken(isBare, a, z), nil, 30},
		{echo(host, far, 4000), nil, 6},
		{spoken(isReply, a, z), nil, 6},
		{segment(a, z, 2), nil, 4},
		{segment(a, z, 16), nil, 4},
		{segment(a, z, 1), nil, 4},
		{segment(a, z, 4), nil, 2},
		{segment(a, z, 2), []byte{18}, 200},
		{segment(a, z, 1), []byte{16}, 200},
		{segment(a, z, 1), []byte{17}, 2},
		{segment(a, z, 2), []byte{18, 20}, 2},
	}
}

// P21.2: a session is gone at just its tick, and its point is free for the next one.
func TestSessionEnds(t *testing.T) {
	for _, start := range []uint32{0, 77, 1<<16 - 3, last - 250} {
		for _, x := range lives() {
			u := xlate.New(tenant(), start)
			opened(t, u, x.out, point(home, 1024))
			for _, flags := range x.in {
				wantIn(t, u, segment(x.out.dst, point(home, 1024), flags), point(seen, 53), x.out.src)
			}
			for i := range x.life {
				all := u.Sessions()
				if len(all) != 1 || all[0].Until != start+uint32(x.life) {
					t.Fatalf("%d ticks of %d:\n%s", i, x.life, text(all))
				}
				u.Tick()
			}
			wantSessions(t, u)
			next := x.out
			next.src.Ip = other
			opened(t, u, next, point(home, 1024))
			ticks(u, x.life)
		}
	}
}

// P21.2: a session that is spoken to or by ends so many ticks behind it, and not at what was told before.
func TestSessionIsPutOff(t *testing.T) {
	u := xlate.New(tenant(), 0)
	a, z := point(host, 4000), point(far, 53)
	for i := range 20 {
		wantOut(t, u, datagram(a, z), point(home, 1024), z)
		ticks(u, 29)
		wantIn(t, u, datagram(z, point(home, 1024)), point(seen, 53), a)
		ticks(u, 29)
		wantSessions(t, u, session(datagram(a, z), point(home, 1024), 0, api.StateUp, uint32(i*58+59), z))
	}
	u.Tick()
	wantSessions(t, u)
	ticks(u, 100)
	wantSessions(t, u)
}

// P21.2: sessions end earlier than their generation, with it, and together at one tick; each point is free then.
func TestSessionsAndGenerationsEnd(t *testing.T) {
	u := xlate.New(tenant(), 0)
	z := point(far, 53)
	short, long, even := segment(point(host, 4000), z, 4), datagram(point(host, 4000), z), echo(host, far, 4000)
	for _, x := range []talk{short, long, even} {
		opened(t, u, x, point(home, 1024))
	}
	wantPut(t, u, tenant(), 6, api.OK, 0, 1)
	ticks(u, 2)
	wantSessions(t, u, session(even, point(home, 1024), 0, api.StateUp, 6, point(far, 1024)), session(long, point(home, 1024), 0, api.StateUp, 30, z))
	opened(t, u, short, point(home, 1024))
	ticks(u, 4)
	wantGens(t, u, 1)
	wantSessions(t, u)
	for _, x := range []talk{short, long, even} {
		x.src.Ip = other
		opened(t, u, x, point(home, 1024))
	}
}
