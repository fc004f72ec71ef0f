package xlate_test

import (
	"bytes"
	"slices"
	"testing"

	"lych/api"
	"lych/xlate"
)

const (
	host   = 0x0a000002
	other  = 0x0a000003
	third  = 0x0a000004
	server = 0x0a000064 // the static one, inside
	public = 0x05050508 // and outside
	home   = 0x05050501
	second = 0x05050502
	away   = 0x07070701 // the pool of other settings
	far    = 0x08080808
	near   = 0x09090909
	seen   = 0x0a0000c8 // far's, as it is seen from inside
)

// tenant is one with few ports, a static pair and a twice pair.
func tenant() api.Tenant {
	return api.Tenant{
		Name: "t", Vni: 5, Vtep: 1,
		Pool: []uint32{home, second}, Lo: 1024, Hi: 1027,
		Statics: []api.Pair{{A: server, B: public}},
		Twices:  []api.Pair{{A: seen, B: far}},
		Sess:    6, Queue: 4, Rate: 1, Burst: 1,
	}
}

// elsewhere is that tenant with a pool of one other address, and without pairs.
func elsewhere() api.Tenant {
	x := tenant()
	x.Pool, x.Statics, x.Twices = []uint32{away}, nil, nil
	return x
}

// filtered is that tenant with a filter.
func filtered(filter int) api.Tenant {
	x := tenant()
	x.Filter = filter
	return x
}

// call is Out or In of a unit.
type call func([]byte) (int, []byte)

// wantGoes holds a packet to a counter and to what goes on.
func wantGoes(t *testing.T, f call, x talk, n int, want talk) {
	t.Helper()
	if got, b := f(x.bytes()); got != n || !bytes.Equal(b, want.bytes()) {
		t.Fatalf("%+v: %d,\n% x; want %d,\n% x", x, got, b, n, want.bytes())
	}
}

// wantNot holds a packet to a counter, and to nothing that goes on.
func wantNot(t *testing.T, f call, x talk, n int) {
	t.Helper()
	wantNoBytes(t, f, x.bytes(), n)
}

func wantNoBytes(t *testing.T, f call, b []byte, n int) {
	t.Helper()
	if got, out := f(b); got != n || len(out) != 0 {
		t.Fatalf("% x: %d,\n% x; want %d, and nothing", b, got, out, n)
	}
}

// wantOut, wantHair and wantIn hold a packet to what goes on, from src to dst.
func wantOut(t *testing.T, u *xlate.Unit, x talk, src, dst api.Point) {
	t.Helper()
	wantGoes(t, u.Out, x, api.CountOut, x.goes(src, dst))
}

func wantHair(t *testing.T, u *xlate.Unit, x talk, src, dst api.Point) {
	t.Helper()
	wantGoes(t, u.Out, x, api.CountHair, x.goes(src, dst))
}

func wantIn(t *testing.T, u *xlate.Unit, x talk, src, dst api.Point) {
	t.Helper()
	wantGoes(t, u.In, x, api.CountIn, x.goes(src, dst))
}

// wantErrorOut and wantErrorIn hold an error to what goes on, from src to dst, and the points of the packet in it.
func wantErrorOut(t *testing.T, u *xlate.Unit, x talk, src, dst uint32, innerSrc, innerDst api.Point) {
	t.Helper()
	wantGoes(t, u.Out, x, api.CountOut, x.fails(src, dst, innerSrc, innerDst))
}

func wantErrorIn(t *testing.T, u *xlate.Unit, x talk, src, dst uint32, innerSrc, innerDst api.Point) {
	t.Helper()
	wantGoes(t, u.In, x, api.CountIn, x.fails(src, dst, innerSrc, innerDst))
}

// opened is a session that a packet from inside has made.
func opened(t *testing.T, u *xlate.Unit, x talk, out api.Point) {
	t.Helper()
	if n, _ := u.Out(x.bytes()); n != api.CountOut {
		t.Fatalf("%+v: %d", x, n)
	}
	for _, s := range u.Sessions() {
		if s.Key == keyOf(x) && s.Out == out {
			return
		}
	}
	t.Fatalf("%+v: no session of %v:\n%s", x, out, text(u.Sessions()))
}

// keyOf is the key of the session of a packet from inside.
func keyOf(x talk) api.Key { return api.Key{Proto: protoOf(x.kind), In: x.src} }

// session is one of a packet from inside.
func session(x talk, out api.Point, gen uint32, state int, until uint32, peers ...api.Point) api.Sess {
	return api.Sess{Key: keyOf(x), Out: out, Gen: gen, State: state, Until: until, Peers: peers}
}

func wantSessions(t *testing.T, u *xlate.Unit, want ...api.Sess) {
	t.Helper()
	if got := text(u.Sessions()); got != text(want) {
		t.Fatalf("Sessions:\n%swant\n%s", got, text(want))
	}
}

// wantGens holds Gens, and May with it.
func wantGens(t *testing.T, u *xlate.Unit, want ...uint32) {
	t.Helper()
	if got := u.Gens(); !slices.Equal(got, want) || u.May() != (len(want) < api.MaxGens) {
		t.Fatalf("Gens %v, May %v; want %v", got, u.May(), want)
	}
}

func wantPut(t *testing.T, u *xlate.Unit, x api.Tenant, drain uint32, want api.Errno, gens ...uint32) {
	t.Helper()
	if got := u.Put(x, drain); got != want {
		t.Fatalf("Put = %v; want %v", got, want)
	}
	wantGens(t, u, gens...)
}

func wantNow(t *testing.T, u *xlate.Unit, want uint32) {
	t.Helper()
	if got := u.Now(); got != want {
		t.Fatalf("Now %d; want %d", got, want)
	}
}

// wantHolds holds Holds of these addresses.
func wantHolds(t *testing.T, u *xlate.Unit, want bool, list ...uint32) {
	t.Helper()
	for _, ip := range list {
		if u.Holds(ip) != want {
			t.Fatalf("Holds(%x) = %v", ip, !want)
		}
	}
}

// ticks goes on by n ticks.
func ticks(u *xlate.Unit, n int) {
	for range n {
		u.Tick()
	}
}
