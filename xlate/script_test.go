package xlate_test

import (
	"math/rand/v2"
	"slices"
	"testing"

	"lych/api"
	"lych/valid"
	"lych/xlate"
)

// insides are inside addresses, pools outside ones of the tenant's, fars others', seens such as stand for others inside.
func insides() []uint32 { return []uint32{0x0a000002, 0x0a000003, 0x0a000004, 0x0a000064, 0x0a000065} }
func pools() []uint32   { return []uint32{0x05050501, 0x05050502, 0x05050503, 0x05050508, 0x05050509} }
func fars() []uint32    { return []uint32{0x08080808, 0x08080809, 0x09090909} }
func seens() []uint32   { return []uint32{0x0a0000c8, 0x0a0000c9, 0x0a0000ca} }

// randomTenant is one that may be, of few addresses and ports, so that all meet often.
func randomTenant(r *rand.Rand) api.Tenant {
	for {
		x := tenant()
		pool := pools()
		r.Shuffle(len(pool), func(i, j int) { pool[i], pool[j] = pool[j], pool[i] })
		x.Pool, x.Statics, x.Twices = pool[:1+r.IntN(3)], nil, nil
		for range r.IntN(3) {
			x.Statics = append(x.Statics, api.Pair{A: one(r, insides()...), B: one(r, pools()...)})
		}
		for range r.IntN(4) {
			x.Twices = append(x.Twices, api.Pair{A: one(r, seens()...), B: one(r, append(fars(), pools()...)...)})
		}
		x.Lo = one[uint16](r, 1020, 1024, 1024, 2000)
		x.Hi = x.Lo + uint16(r.IntN(8))
		x.Filter, x.Sess = r.IntN(3), one(r, 1, 5, 10, 10, 40)
		if valid.Tenant(x) == api.OK {
			return x
		}
	}
}

// anyPort is one of a few that meet the tenants' ports often.
func anyPort(r *rand.Rand) int {
	return one(r, 53, 80, 1018+r.IntN(14), 2000+r.IntN(8), 4000+r.IntN(4), 4000+r.IntN(4))
}

// anyInside, anyOutside and anyFar are points at random: often ones that a session has, or has spoken to.
func anyInside(r *rand.Rand, m *model) api.Point {
	if len(m.list) > 0 && r.IntN(2) == 0 {
		return one(r, m.list...).Key.In
	}
	return point(one(r, insides()...), anyPort(r))
}

func anyOutside(r *rand.Rand, m *model) api.Point {
	if len(m.list) > 0 && r.IntN(4) > 0 {
		return one(r, m.list...).Out
	}
	return point(one(r, pools()...), anyPort(r))
}

func anyFar(r *rand.Rand, m *model) api.Point {
	if len(m.list) > 0 && r.IntN(2) == 0 {
		if s := one(r, m.list...); len(s.Peers) > 0 {
			return one(r, s.Peers...)
		}
	}
	if r.IntN(4) == 0 {
		return anyOutside(r, m)
	}
	return point(one(r, append(fars(), seens()...)...), anyPort(r))
}

// flawed is a packet that is at times not to be translated, for one reason or for several.
func flawed(r *rand.Rand, x talk) talk {
	if r.IntN(30) > 0 {
		return x
	}
	for range 1 + r.IntN(2) {
		switch r.IntN(4) {
		case 0:
			x.flaw = r.IntN(flaws)
		case 1:
			x.ttl = byte(r.IntN(2))
		case 2:
			x.frag = one[uint16](r, 0x2000, 1, 0x3fff, 0x1000)
		case 3:
			x.proto = one[byte](r, 2, 47, 255)
		}
	}
	return x
}

// anyId is x; an echo with one of two ids at random.
func anyId(r *rand.Rand, x talk, a, b api.Point) talk {
	if x.isEcho() {
		x.src.Port = one(r, a.Port, b.Port)
		x.dst.Port = x.src.Port
	}
	return x
}

// inner is a packet that may stand in an error, cut behind 8 bytes or not at all.
func inner(r *rand.Rand, src, dst api.Point) []byte {
	b := anyId(r, randomTalk(r, r.IntN(kinds), src, dst), src, dst).bytes()
	least := 4*int(b[0]&15) + 8
	return b[:least+r.IntN(len(b)-least+1)]
}

// fromInside and fromOutside are packets of either side, at random.
func fromInside(r *rand.Rand, m *model) talk {
	src, dst := anyInside(r, m), anyFar(r, m)
	x := anyId(r, randomTalk(r, r.IntN(kinds), src, dst), src, dst)
	if r.IntN(6) == 0 {
		x = randomTalk(r, isError, point(src.Ip, 0), point(dst.Ip, 0))
		x.inner = inner(r, anyFar(r, m), src)
	}
	return flawed(r, x)
}

func fromOutside(r *rand.Rand, m *model) talk {
	src, dst := anyFar(r, m), anyOutside(r, m)
	x := anyId(r, randomTalk(r, r.IntN(kinds), src, dst), dst, dst)
	if r.IntN(6) == 0 {
		x = randomTalk(r, isError, point(src.Ip, 0), point(dst.Ip, 0))
		x.inner = inner(r, dst, anyFar(r, m))
	}
	return flawed(r, x)
}

// wantUnlike holds P21.9 to what Sessions tells: it goes through all pairs.
func wantUnlike(t *testing.T, u *xlate.Unit) {
	t.Helper()
	all := u.Sessions()
	for i, a := range all {
		for _, b := range all[:i] {
			if a.Key.Proto == b.Key.Proto && a.Out == b.Out || a.Key == b.Key {
				t.Fatalf("alike: %v, %v", a, b)
			}
		}
	}
}

// script makes calls at random, held to the model, and counts what they told: of Out, and of In.
func script(b both, r *rand.Rand, n int, told *[2][api.Counters]int) {
	b.t.Helper()
	for range n {
		switch r.IntN(20) {
		case 0:
			for range one(r, 1, 1, 2, 7) {
				b.tick()
			}
		case 1:
			if r.IntN(4) == 0 {
				b.put(randomTenant(r), one[uint32](r, 0, 1, 2, 3, 5, 8, 40, 1<<32-1))
			}
			b.holds(slices.Concat(insides(), pools(), fars(), seens())...)
		case 2, 3, 4, 5, 6, 7, 8, 9, 10, 11:
			told[0][b.out(fromInside(r, b.m))]++
		default:
			told[1][b.in(fromOutside(r, b.m))]++
		}
		wantUnlike(b.t, b.u)
	}
}

// P21.1 to P21.9: long scripts of packets of both sides, ticks and new settings, held to the model byte by byte.
func TestScripts(t *testing.T) {
	var told [2][api.Counters]int
	for seed := range uint64(100) {
		r := random(seed)
		b := newBoth(t, randomTenant(r), one[uint32](r, 0, 7, last-300))
		script(b, r, 1500, &told)
	}
	t.Log(told)
	for _, n := range []int{api.CountOut, api.CountHair, api.CountForm, api.CountTtl, api.CountFrag, api.CountProto, api.CountTable, api.CountPool, api.CountNone, api.CountFilter} {
		if told[0][n] < 20 {
			t.Errorf("Out told %d but %d times", n, told[0][n])
		}
	}
	for _, n := range []int{api.CountIn, api.CountForm, api.CountTtl, api.CountFrag, api.CountProto, api.CountNone, api.CountFilter} {
		if told[1][n] < 20 {
			t.Errorf("In told %d but %d times", n, told[1][n])
		}
	}
}
