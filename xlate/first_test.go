package xlate_test

import (
	"bytes"
	"testing"

	"lych/api"
	"lych/xlate"
)

// reason is one by which a packet isn't translated, its counter, and how it is made.
type reason struct {
	name  string
	count int
	spoil func(*talk)
}

// reasons are P21.3's, in order: each one counts ahead of those behind it.
func reasons() [][]reason {
	frag := func(n uint16) func(*talk) { return func(x *talk) { x.frag = n } }
	ttl := func(n byte) func(*talk) { return func(x *talk) { x.ttl = n } }
	proto := func(n byte) func(*talk) { return func(x *talk) { x.proto = n } }
	return [][]reason{
		{{"header", api.CountForm, func(x *talk) { x.flaw = isHeadSpoilt }}},
		{{"no hop", api.CountTtl, ttl(0)}, {"one hop", api.CountTtl, ttl(1)}},
		{{"first", api.CountFrag, frag(0x2000)}, {"middle", api.CountFrag, frag(0x2001)}, {"last", api.CountFrag, frag(1)}, {"far behind", api.CountFrag, frag(0x1fff)}, {"upper half", api.CountFrag, frag(0x1000)}, {"all bits", api.CountFrag, frag(0xffff)}, {"two bits", api.CountFrag, frag(0x6000)}},
		{{"proto 2", api.CountProto, proto(2)}, {"proto 5", api.CountProto, proto(5)}, {"proto 7", api.CountProto, proto(7)}, {"proto 16", api.CountProto, proto(16)}, {"proto 18", api.CountProto, proto(18)}, {"proto 255", api.CountProto, proto(255)}},
		{{"what it carries", api.CountForm, func(x *talk) { x.flaw = isBodySpoilt }}},
	}
}

// crossing is a unit and a packet of each kind that would go through it: from inside, or from outside.
func crossing(t *testing.T, kind int, fromInside bool) (*xlate.Unit, call, talk) {
	t.Helper()
	u := xlate.New(tenant(), 0)
	a, z, p := point(host, 4000), point(far, 53), point(home, 1024)
	for _, x := range []talk{datagram(a, z), segment(a, z, 16), echo(host, far, 4000)} {
		opened(t, u, x, p)
	}
	u.Tick()
	switch {
	case kind == isError && fromInside:
		return u, u.Out, failure(host, far, datagram(z, a))
	case kind == isError:
		return u, u.In, failure(far, home, datagram(p, z))
	case fromInside:
		return u, u.Out, spoken(kind, a, z)
	}
	x := spoken(kind, z, p)
	if x.isEcho() {
		x.src.Port = p.Port
	}
	return u, u.In, x
}

// each goes through packets of all kinds, from both sides, that would go on; the unit is a new one each time.
func each(t *testing.T, f func(u *xlate.Unit, f call, x talk)) {
	t.Helper()
	for kind := range kinds + 1 {
		for _, side := range []bool{true, false} {
			u, c, x := crossing(t, kind, side)
			f(u, c, x)
		}
	}
}

// wantStopped holds a packet to a counter, and to sessions that stay as they were.
func wantStopped(t *testing.T, what string, u *xlate.Unit, f call, x talk, n int) {
	t.Helper()
	before := text(u.Sessions())
	if got, b := f(x.bytes()); got != n || len(b) != 0 {
		t.Fatalf("%s: %+v: %d, % x; want %d", what, x, got, b, n)
	}
	if got := text(u.Sessions()); got != before {
		t.Fatalf("%s: %+v:\n%swas\n%s", what, x, got, before)
	}
}

// P21.3: of packets that are in order none of the reasons holds: they go on, with one hop less.
func TestNoReason(t *testing.T) {
	each(t, func(u *xlate.Unit, f call, x talk) {
		for _, ttl := range []byte{2, 3, 64, 128, 255} {
			for _, frag := range []uint16{0, 0x4000, 0x8000, 0xc000} {
				x.ttl, x.frag = ttl, frag
				n, b := f(x.bytes())
				if n != api.CountOut && n != api.CountIn || len(b) != len(x.bytes()) || b[8] != ttl-1 || wordAt(b, 6) != frag {
					t.Fatalf("%+v: %d, % x", x, n, b)
				}
			}
		}
	})
}

// P21.3: each of the reasons alone.
func TestOneReason(t *testing.T) {
	for _, row := range reasons() {
		for _, why := range row {
			each(t, func(u *xlate.Unit, f call, x talk) {
				why.spoil(&x)
				wantStopped(t, why.name, u, f, x, why.count)
			})
		}
	}
}

// P21.3: of two at once, and of all that stand behind it, the first one counts.
func TestTwoReasons(t *testing.T) {
	rows := reasons()
	for i := range rows {
		for _, first := range rows[i] {
			for j := i + 1; j < len(rows); j++ {
				for _, second := range rows[j] {
					each(t, func(u *xlate.Unit, f call, x talk) {
						second.spoil(&x)
						first.spoil(&x)
						wantStopped(t, first.name+" and "+second.name, u, f, x, first.count)
					})
				}
			}
			each(t, func(u *xlate.Unit, f call, x talk) {
				for j := len(rows) - 1; j > i; j-- {
					rows[j][0].spoil(&x)
				}
				first.spoil(&x)
				wantStopped(t, first.name+" and all", u, f, x, first.count)
			})
		}
	}
}

// P21.3: bytes that are cut anywhere are no packet; what stands behind a packet says nothing and is gone.
func TestCutAndLonger(t *testing.T) {
	each(t, func(u *xlate.Unit, f call, x talk) {
		b := x.bytes()
		for n := range b {
			wantNoBytes(t, f, b[:n], api.CountForm)
		}
		_, want := f(b)
		for _, n := range []int{1, 2, 7, 1000} {
			if _, got := f(join(b, bytes.Repeat([]byte{0xe1}, n))); !bytes.Equal(got, want) {
				t.Fatalf("% x; want % x", got, want)
			}
		}
	})
}

// P21.3: a packet of another version, of a header or a length that none has.
func TestOtherForms(t *testing.T) {
	each(t, func(u *xlate.Unit, f call, x talk) {
		before := text(u.Sessions())
		for _, change := range [][2]byte{{0, 0x55}, {0, 0x44}, {0, 0x05}, {0, 0x4f}, {2, 0xff}, {3, 19}} {
			b := x.bytes()
			b[change[0]] = change[1]
			wantNoBytes(t, f, b, api.CountForm)
			// A hop too few doesn't count ahead of it.
			b[8] = 0
			wantNoBytes(t, f, b, api.CountForm)
		}
		if got := text(u.Sessions()); got != before {
			t.Fatalf("%s; was\n%s", got, before)
		}
	})
}

// P21.3: messages that are neither an echo nor an error, and errors about what is no packet of the three.
func TestOtherMessages(t *testing.T) {
	a, z, p := point(host, 4000), point(far, 53), point(home, 1024)
	raw := func(kind, code byte, body []byte) talk {
		x := spoken(isError, point(host, 0), point(far, 0))
		x.failed, x.flags, x.inner = kind, code, body
		return x
	}
	for _, side := range []bool{true, false} {
		u, f, _ := crossing(t, isDatagram, side)
		about, src, dst := datagram(z, a).bytes(), uint32(host), uint32(far)
		if !side {
			about, src, dst = datagram(p, z).bytes(), far, home
		}
		stopped := func(x talk) {
			t.Helper()
			x.src.Ip, x.dst.Ip = src, dst
			wantStopped(t, "a message", u, f, x, api.CountForm)
		}
		for kind := range 256 {
			switch kind {
			case 0, 8:
				for code := 1; code < 256; code++ {
					stopped(raw(byte(kind), byte(code), about))
				}
			case 3, 11, 12:
			default:
				stopped(raw(byte(kind), 0, about))
				stopped(raw(byte(kind), 3, about))
			}
		}
		for n := range 28 {
			stopped(raw(3, 1, about[:n]))
		}
		for _, change := range [][2]byte{{0, 0x55}, {0, 0x44}, {0, 0x40}, {0, 0x4f}, {9, 2}, {9, 0}, {9, 255}} {
			b := bytes.Clone(about)
			b[change[0]] = change[1]
			stopped(raw(3, 1, b))
		}
		// An error about an error.
		stopped(raw(3, 1, failure(host, far, datagram(a, z)).bytes()))
		stopped(raw(11, 0, failure(far, home, datagram(p, z)).bytes()))
	}
}

// P21.3: a packet's own bytes count ahead of what the tenant has: a full table, no port, no session.
func TestReasonsCountFirst(t *testing.T) {
	x := tenant()
	x.Sess, x.Filter = 1, api.FilterPort
	u := xlate.New(x, 0)
	opened(t, u, datagram(point(host, 4000), point(far, 53)), point(home, 1024))
	wantNot(t, u.Out, datagram(point(other, 4000), point(far, 53)), api.CountTable)
	wantNot(t, u.In, datagram(point(near, 53), point(home, 1024)), api.CountFilter)
	wantNot(t, u.In, datagram(point(near, 53), point(home, 1025)), api.CountNone)
	for _, row := range reasons() {
		for _, why := range row {
			for _, y := range []talk{datagram(point(other, 4000), point(far, 53)), datagram(point(host, 4000), point(home, 1025))} {
				why.spoil(&y)
				wantStopped(t, why.name, u, u.Out, y, why.count)
			}
			for _, y := range []talk{datagram(point(near, 53), point(home, 1024)), datagram(point(near, 53), point(home, 1025))} {
				why.spoil(&y)
				wantStopped(t, why.name, u, u.In, y, why.count)
			}
		}
	}
}
