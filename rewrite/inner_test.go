package rewrite_test

import (
	"bytes"
	"math/rand/v2"
	"strconv"
	"testing"

	"lych/api"
	"lych/ip"
	"lych/rewrite"
	"lych/sum"
)

// updated is a checksum in which one word was was and is now, told without the program: RFC 1624's third equation in whole numbers.
func updated(old, was, now uint16) uint16 {
	s := (0xffff - int(old)) + (0xffff - int(was)) + int(now)
	if s == 0 {
		return 0xffff
	}
	return uint16(0xffff - ((s-1)%0xffff + 1))
}

// wordAt is the word that stands at that place.
func wordAt(b []byte, at int) uint16 { return uint16(b[at])<<8 | uint16(b[at+1]) }

// moved is what becomes of an inner packet: its addresses word by word, its checksum along with them, its ports or its id.
func moved(inner []byte, src, dst api.Point) []byte {
	out := bytes.Clone(inner)
	check := wordAt(out, 10)
	for i, now := range []uint16{uint16(src.Ip >> 16), uint16(src.Ip), uint16(dst.Ip >> 16), uint16(dst.Ip)} {
		check = updated(check, wordAt(out, 12+2*i), now)
		copy(out[12+2*i:], word(now))
	}
	copy(out[10:], word(check))
	at := 4 * int(out[0]&15)
	if out[9] == 1 {
		copy(out[at+4:], word(src.Port))
	} else {
		copy(out[at:], join(word(src.Port), word(dst.Port)))
	}
	return out
}

// randomInner is a packet that may stand in an Error, of that kind: its length, its checksum and its rest as they come, cut anywhere behind 8 bytes.
func randomInner(r *rand.Rand, kind int) []byte {
	s := randomStuff(r, kind)
	src, dst := pointsFor(r, kind)
	b := s.packet(src, dst)
	least := 20 + len(s.head.opts) + 8
	b = b[:least+r.IntN(len(b)-least+1)]
	if r.IntN(3) == 0 {
		copy(b[2:], randomBytes(r, 2))
	}
	switch r.IntN(5) {
	case 0:
		copy(b[10:], randomBytes(r, 2))
	case 1:
		copy(b[10:], []byte{0xff, 0xff})
	case 2:
		copy(b[10:], []byte{0, 0})
	}
	return b
}

// P8.3: a datagram in an error, byte by byte.
func TestInnerKnown(t *testing.T) {
	b, _, want := knownError()
	got, err := rewrite.Inner(b, knownC, knownD)
	wantBytes(t, "a datagram in an error", got, err, want)
	got, err = rewrite.Inner(want, knownA, knownB)
	wantBytes(t, "back", got, err, b)
}

// P8.3: of each kind nothing but the points, the header's checksum and the message's Sum is another; what stood behind the packet is gone.
func TestInnerAnyPacket(t *testing.T) {
	r := random(29)
	for i := range 10000 {
		kind := i % kinds
		inner := randomInner(r, kind)
		src, dst := pointsFor(r, kind)
		h, from, to := randomHead(r, 4*r.IntN(11)), r.Uint32(), r.Uint32()
		of, code, rest := []byte{3, 11, 12}[r.IntN(3)], byte(r.Uint32()), r.Uint32()
		b := packet(h, 1, from, to, message(of, code, rest, inner))
		got, err := rewrite.Inner(join(b, randomBytes(r, r.IntN(4))), src, dst)
		want := packet(h, 1, from, to, message(of, code, rest, moved(inner, src, dst)))
		if err != api.OK || !bytes.Equal(got, want) {
			t.Fatalf("kind %d:\n% x, %v, want\n% x", kind, got, err, want)
		}
		flow := rewrite.Flow{Proto: 1, Src: api.Point{Ip: from}, Dst: api.Point{Ip: to}, Inner: []api.Point{src, dst}}
		if _, f, err := rewrite.Look(got); err != api.OK || !sameFlow(f, flow) {
			t.Fatalf("kind %d: %v, %v", kind, f, err)
		}
	}
}

// P8.3: each inner kind with its own checksum, which stays; what stands behind the ports or the id stays too.
func TestInnerKinds(t *testing.T) {
	src, dst := api.Point{Ip: 0x51525354, Port: 0x5556}, api.Point{Ip: 0x61626364, Port: 0x5556}
	for kind := range kinds {
		inner := spoken(kind, "more")
		got, err := rewrite.Inner(failed(12, inner), src, dst)
		if err != api.OK {
			t.Fatalf("kind %d: %v", kind, err)
		}
		out := got[28:]
		if summed(out[:20]) != 0xffff || summed(got[:20]) != 0xffff || summed(got[20:]) != 0xffff {
			t.Errorf("kind %d: checksums of % x", kind, got)
		}
		want := join(inner[:10], out[10:12], long(src.Ip), long(dst.Ip), word(0x5556), word(0x5556), inner[24:])
		if kind == isAsking || kind == isReply {
			want = join(inner[:10], out[10:12], long(src.Ip), long(dst.Ip), inner[20:24], word(0x5556), inner[26:])
		}
		wantBytes(t, "kind "+strconv.Itoa(kind), out, err, want)
	}
}

// P8.3: the inner checksum is sum.Update's, the source's words first: one that was wrong stays as wrong, and of the noughts it is the one that Update tells.
func TestInnerChecksum(t *testing.T) {
	r := random(31)
	for old := range 1 << 16 {
		inner := spoken(isDatagram, "")
		copy(inner[10:], word(uint16(old)))
		src, dst := randomPoint(r), randomPoint(r)
		switch old % 4 {
		case 0: // nothing is another
			src.Ip, dst.Ip = 0x0a000002, 0x08080808
		case 1:
			src.Ip = 0
		case 2:
			src.Ip, dst.Ip = 0xffffffff, 0xffffffff
		}
		want := uint16(old)
		for i, now := range []uint16{uint16(src.Ip >> 16), uint16(src.Ip), uint16(dst.Ip >> 16), uint16(dst.Ip)} {
			want = sum.Update(want, wordAt(inner, 12+2*i), now)
		}
		got, err := rewrite.Inner(failed(3, inner), src, dst)
		if err != api.OK || wordAt(got, 28+10) != want {
			t.Fatalf("%04x: % x, %v, want %04x", old, got, err, want)
		}
	}
}

// P8.3: inner checksums that were worked out apart from the program, the noughts among them.
func TestInnerChecksumKnown(t *testing.T) {
	for _, c := range []struct {
		old      uint16
		was, now uint32 // of both addresses
		want     uint16
	}{
		{0xffff, 0x0a000002, 0x0a000002, 0x0000}, // the same words put in turn the one nought into the other
		{0x0000, 0x0a000002, 0x0a000002, 0x0000},
		{0xffff, 0xffffffff, 0x00000000, 0xffff}, // but where nothing at all is put on
		{0xffff, 0x00000000, 0xffffffff, 0x0000},
		{0x0002, 0x00000001, 0x00000002, 0x0000},
		{0x0001, 0x00000001, 0x00000002, 0xfffe},
		{0x1234, 0x11112222, 0x33334444, 0x89ab},
	} {
		inner := join(spoken(isDatagram, "")[:10], word(c.old), long(c.was), long(c.was), make([]byte, 8))
		got, err := rewrite.Inner(failed(3, inner), api.Point{Ip: c.now}, api.Point{Ip: c.now})
		if err != api.OK || wordAt(got, 28+10) != c.want {
			t.Errorf("%04x, %08x to %08x: % x, %v, want %04x", c.old, c.was, c.now, got, err, c.want)
		}
	}
}

// P8.3: what isn't an Error has no inner packet.
func TestInnerOfNoError(t *testing.T) {
	for kind := range kinds {
		for _, n := range []uint16{0, 7} {
			got, err := rewrite.Inner(spoken(kind, string(spoken(isDatagram, ""))), port(n), port(n))
			wantRefused(t, strconv.Itoa(kind), got, err, api.ErrForm)
		}
	}
}

// P8.3: an inner Echo's Ports are alike, whatever they are; a datagram's and a segment's needn't be.
func TestInnerPorts(t *testing.T) {
	unlike := [][2]uint16{{0, 1}, {1, 0}, {7, 9}, {0x0100, 0x0001}, {0, 0xffff}}
	for kind := range kinds {
		for _, of := range []byte{3, 11, 12} {
			b := failed(of, spoken(kind, "more"))
			for _, c := range unlike {
				got, err := rewrite.Inner(b, port(c[0]), port(c[1]))
				if kind == isAsking || kind == isReply {
					wantRefused(t, strconv.Itoa(kind), got, err, api.ErrForm)
				} else if err != api.OK || !bytes.Equal(got[48:52], join(word(c[0]), word(c[1]))) {
					t.Errorf("kind %d, %v: % x, %v", kind, c, got, err)
				}
			}
			for _, n := range []uint16{0, 1, 0x100, 0xffff} {
				if got, err := rewrite.Inner(b, port(n), port(n)); err != api.OK || len(got) != len(b) {
					t.Errorf("kind %d, %d: % x, %v", kind, n, got, err)
				}
			}
		}
	}
}

// P8.3, P8.4: an Error whose inner packet has the checksum that ip.Bytes would make, changed within and changed back, is the one it was.
func TestInnerChangedBack(t *testing.T) {
	r := random(37)
	for i := range 10000 {
		kind := i % kinds
		s := randomStuff(r, kind)
		src, dst := pointsFor(r, kind)
		b := failed(11, s.packet(src, dst))
		newSrc, newDst := pointsFor(r, kind)
		there, err := rewrite.Inner(b, newSrc, newDst)
		if err != api.OK {
			t.Fatalf("% x: %v", b, err)
		}
		if back, err := rewrite.Inner(there, src, dst); err != api.OK || !bytes.Equal(back, b) {
			t.Fatalf("% x: % x, %v", b, back, err)
		}
	}
}

// P8.3: one hop less, the checksum right, all else as it stands, whatever the packet carries; at a Ttl of 0 there is none.
func TestHop(t *testing.T) {
	r := random(41)
	for ttl := range 256 {
		for proto := range 256 {
			h := randomHead(r, 4*r.IntN(11))
			h.ttl = byte(ttl)
			src, dst, body := r.Uint32(), r.Uint32(), randomBytes(r, r.IntN(30))
			got, err := rewrite.Hop(join(packet(h, byte(proto), src, dst, body), randomBytes(r, r.IntN(4))))
			if ttl == 0 {
				wantRefused(t, "a Ttl of 0", got, err, api.ErrForm)
				continue
			}
			h.ttl--
			if want := packet(h, byte(proto), src, dst, body); err != api.OK || !bytes.Equal(got, want) {
				t.Fatalf("a Ttl of %d: % x, %v, want % x", ttl, got, err, want)
			}
		}
	}
}

// P8.3: hops at 1 and 255, the checksums worked out apart from the program.
func TestHopKnown(t *testing.T) {
	for _, c := range []struct{ was, want string }{
		{"45000014 00000000 01110000 01020304 05060708", "45000014 00000000 00110000 01020304 05060708"},
		{"45000014 00000000 ff110000 01020304 05060708", "45000014 00000000 fe110000 01020304 05060708"},
	} {
		got, err := rewrite.Hop(sealed(nil, fromHex(c.was), 10))
		wantBytes(t, c.was, got, err, sealed(nil, fromHex(c.want), 10))
	}
	b, _ := knownDatagram()
	got, err := rewrite.Hop(b)
	wantBytes(t, "the known datagram", got, err, with(b, 8, 0x30, 0x11, 0x0d, 0x86))
}

// P8.3: Hop has ip.Parse's error, ahead of its own, and asks for nothing of the body.
func TestHopErrors(t *testing.T) {
	r := random(43)
	for range 50000 {
		b := packet(randomHead(r, 4*r.IntN(3)), byte(r.Uint32()), r.Uint32(), r.Uint32(), randomBytes(r, r.IntN(10)))
		switch r.IntN(4) {
		case 0:
			b = b[:r.IntN(len(b))]
		case 1:
			b[r.IntN(20)] ^= byte(r.Uint32())
		case 2:
			b[8] = 0
		}
		p, want := ip.Parse(b)
		if want == api.OK && p.Ttl == 0 {
			want = api.ErrForm
		}
		if got, err := rewrite.Hop(b); err != want || err != api.OK && len(got) != 0 {
			t.Fatalf("% x: % x, %v, want %v", b, got, err, want)
		}
	}
	nought := packet(head{}, 17, 1, 2, nil)
	for _, c := range []struct {
		b    []byte
		want api.Errno
	}{
		{nil, api.ErrShort},
		{nought[:19], api.ErrShort},
		{with(nought, 2, 0, 21), api.ErrShort},
		{with(nought, 0, 0x55), api.ErrForm},
		{with(nought, 10, nought[10]^1), api.ErrSum},
		{nought, api.ErrForm},
	} {
		got, err := rewrite.Hop(c.b)
		wantRefused(t, strconv.Itoa(len(c.b)), got, err, c.want)
	}
}
