package rewrite_test

import (
	"strconv"
	"testing"

	"lych/api"
	"lych/rewrite"
)

// P8.1: the packet, and the flow of a datagram, a segment, an echo and an error, each part from its place.
func TestLookKnown(t *testing.T) {
	datagram, _ := knownDatagram()
	segment, _ := knownSegment()
	echo, _ := knownEcho()
	failure, _, _ := knownError()
	p := api.Ip{Tos: 0x11, Ttl: 0x31, Id: 0x2122, Flags: 2, Src: knownA.Ip, Dst: knownB.Ip}
	for _, c := range []struct {
		b    []byte
		head int
		flow rewrite.Flow
	}{
		{datagram, 20, rewrite.Flow{Proto: 17, Src: knownA, Dst: knownB}},
		{segment, 24, rewrite.Flow{Proto: 6, Src: knownA, Dst: knownB, Flags: 0x12}},
		{echo, 20, rewrite.Flow{Proto: 1, Src: api.Point{Ip: knownA.Ip, Port: 7}, Dst: api.Point{Ip: knownB.Ip, Port: 7}}},
		{failure, 20, rewrite.Flow{Proto: 1, Src: api.Point{Ip: 0x5b5c5d5e}, Dst: api.Point{Ip: 0x0a0b0c0d}, Inner: []api.Point{knownA, knownB}}},
	} {
		want := p
		want.Proto, want.Src, want.Dst = c.flow.Proto, c.flow.Src.Ip, c.flow.Dst.Ip
		want.Opts, want.Body = c.b[20:c.head], c.b[c.head:]
		got, flow, err := rewrite.Look(c.b)
		if err != api.OK || !samePacket(got, want) || !sameFlow(flow, c.flow) {
			t.Errorf("% x: %x, %x, %v", c.b, got, flow, err)
		}
	}
}

// P8.1: the flow of packets of each kind, whatever else stands in them, bytes behind the packet among them.
func TestLookAnyPacket(t *testing.T) {
	r := random(1)
	for i := range 5000 {
		s := randomStuff(r, i%kinds)
		src, dst := pointsFor(r, s.kind)
		b := s.packet(src, dst)
		p, f, err := rewrite.Look(join(b, randomBytes(r, r.IntN(5))))
		if err != api.OK || !sameFlow(f, s.flow(src, dst)) {
			t.Fatalf("% x: %v, %v", b, f, err)
		}
		want := api.Ip{Tos: s.tos, Ttl: s.ttl, Proto: f.Proto, Id: s.id, Flags: byte(s.frag >> 13), Offset: s.frag & 8191,
			Src: src.Ip, Dst: dst.Ip, Opts: s.head.opts, Body: s.carried(src, dst)}
		if !samePacket(p, want) {
			t.Fatalf("% x: %v", b, p)
		}
	}
}

// P8.1: an Error of each type, with any code, has the points of what stands in it: a datagram, a segment, an echo; its own have no port.
func TestLookErrors(t *testing.T) {
	r := random(3)
	for i := range 6000 {
		s := randomStuff(r, i%kinds)
		src, dst := pointsFor(r, s.kind)
		inner := s.packet(src, dst)
		// What an Error brings along may be cut behind the header and 8 bytes.
		least := 20 + len(s.head.opts) + 8
		inner = inner[:least+r.IntN(len(inner)-least+1)]
		from, to := r.Uint32(), r.Uint32()
		b := packet(randomHead(r, 4*r.IntN(11)), 1, from, to, message([]byte{3, 11, 12}[r.IntN(3)], byte(r.Uint32()), r.Uint32(), inner))
		want := rewrite.Flow{Proto: 1, Src: api.Point{Ip: from}, Dst: api.Point{Ip: to}, Inner: []api.Point{src, dst}}
		if _, f, err := rewrite.Look(b); err != api.OK || !sameFlow(f, want) {
			t.Fatalf("% x: %v, %v, want %v", b, f, err, want)
		}
	}
}

// P8.1: what ip.Parse refuses is refused with its error.
func TestLookPacketErrors(t *testing.T) {
	b := spoken(isDatagram, "hello")
	wantLookError(t, "nil", nil, api.ErrShort)
	wantLookError(t, "empty", []byte{}, api.ErrShort)
	for n := range b {
		wantLookError(t, "cut at "+strconv.Itoa(n), b[:n:n], api.ErrShort)
	}
	wantLookError(t, "version 5", sealed(nil, with(b, 0, 0x55), 10), api.ErrForm)
	wantLookError(t, "a header of 16", sealed(nil, with(b, 0, 0x44), 10), api.ErrForm)
	wantLookError(t, "a length of 19", sealed(nil, with(b, 2, 0, 19), 10), api.ErrForm)
	wantLookError(t, "a longer header", with(b[:24], 0, 0x47, 0, 0, 28), api.ErrShort)
	for i := range 20 * 8 {
		if i < 32 && i/8 != 1 {
			continue // the version and the lengths have errors of their own
		}
		wantLookError(t, "bit "+strconv.Itoa(i), with(b, i/8, b[i/8]^0x80>>(i%8)), api.ErrSum)
	}
}

// P8.1: of the 256 Protos three are looked into.
func TestLookProtos(t *testing.T) {
	for proto := range 256 {
		b := packet(usual, byte(proto), 1, 2, make([]byte, 40))
		switch proto {
		case 1:
			// Noughts are an echo without a right checksum.
			wantLookError(t, "noughts of 1", b, api.ErrSum)
		case 6, 17:
			wantLookError(t, "noughts of 6, 17", b, api.ErrForm)
		default:
			wantLookError(t, strconv.Itoa(proto), b, api.ErrForm)
			wantLookError(t, strconv.Itoa(proto)+", no body", packet(usual, byte(proto), 1, 2, nil), api.ErrForm)
		}
	}
	for kind := range kinds {
		s := stuff{head: usual, kind: kind, middle: make([]byte, 12)}
		for proto := range 256 {
			if proto == int(protoOf(kind)) || proto == 1 || proto == 6 || proto == 17 {
				continue
			}
			wantLookError(t, "as "+strconv.Itoa(proto), packet(usual, byte(proto), 1, 2, s.carried(api.Point{}, api.Point{})), api.ErrForm)
		}
	}
}

// P8.1: what udp.Parse, tcp.Parse or icmp.Parse refuses of the body is refused with its error.
func TestLookBodyErrors(t *testing.T) {
	src, dst := api.Point{Ip: 1, Port: 3}, api.Point{Ip: 2, Port: 4}
	u := datagram(src, dst, []byte("abc"))
	s := segment(src, dst, 2, make([]byte, 12), []byte{1, 1, 1, 0}, nil)
	m := echo(8, 3, 4, nil)
	for n := range u {
		wantLookError(t, "a datagram cut at "+strconv.Itoa(n), packet(usual, 17, 1, 2, u[:n]), api.ErrShort)
	}
	for n := range s {
		wantLookError(t, "a segment cut at "+strconv.Itoa(n), packet(usual, 6, 1, 2, s[:n]), api.ErrShort)
	}
	for n := range m {
		wantLookError(t, "a message cut at "+strconv.Itoa(n), packet(usual, 1, 1, 2, m[:n]), api.ErrShort)
	}
	for n := range byte(8) {
		wantLookError(t, "a datagram's length", packet(usual, 17, 1, 2, with(u, 4, 0, n)), api.ErrForm)
	}
	for n := range byte(5) {
		wantLookError(t, "a segment's header", packet(usual, 6, 1, 2, with(s, 12, n<<4)), api.ErrForm)
	}
	wantLookError(t, "a segment's longer header", packet(usual, 6, 1, 2, with(s, 12, 0x70)), api.ErrShort)
	// The bytes behind the packet's length are none of the body's.
	wantLookError(t, "the rest behind the packet", join(packet(usual, 17, 1, 2, u[:10]), u[10:]), api.ErrShort)
}

// P8.1: a body that isn't Right is refused, one bit anywhere, address by address too.
func TestLookSums(t *testing.T) {
	for _, kind := range []int{isDatagram, isSegment, isAsking, isReply} {
		b := spoken(kind, "hello!")
		for i := 20 * 8; i < 8*len(b); i++ {
			at := i/8 - 20
			if kind == isDatagram && (at == 4 || at == 5) || kind == isSegment && at == 12 {
				continue // the lengths have errors of their own
			}
			wantLookError(t, "bit "+strconv.Itoa(i), with(b, i/8, b[i/8]^0x80>>(i%8)), api.ErrSum)
		}
	}
	for _, kind := range []int{isDatagram, isSegment} {
		b := packet(usual, protoOf(kind), 0x0a000003, 0x08080808, spoken(kind, "hello!")[20:])
		wantLookError(t, "another address", b, api.ErrSum)
	}
	wantLookError(t, "an error", packet(usual, 1, 1, 2, with(message(3, 1, 0, spoken(isDatagram, "")), 7, 1)), api.ErrSum)
}

// P8.1: a datagram's checksum 0 is none: it is right whatever else stands there; a segment's and a message's isn't, but where it is its own.
func TestLookNoSum(t *testing.T) {
	b := with(spoken(isDatagram, "hello"), 26, 0, 0)
	want := rewrite.Flow{Proto: 17, Src: api.Point{Ip: 0x0a000002, Port: 4000}, Dst: api.Point{Ip: 0x08080808, Port: 4000}}
	wantFlow(t, "none", b, want)
	wantFlow(t, "none, other bytes", with(b, 28, 'j'), want)
	wantLookError(t, "a segment's", with(spoken(isSegment, "hello"), 36, 0, 0), api.ErrSum)
	wantLookError(t, "an echo's", with(spoken(isAsking, "hello"), 22, 0, 0), api.ErrSum)
	// The other words sum to ffff: both noughts are right.
	for _, check := range []byte{0, 0xff} {
		m := []byte{8, 0, check, check, 0xf7, 0xff, 0, 0}
		wantFlow(t, "a nought", packet(usual, 1, 1, 2, m), rewrite.Flow{Proto: 1, Src: api.Point{Ip: 1, Port: 0xf7ff}, Dst: api.Point{Ip: 2, Port: 0xf7ff}})
	}
}

// P8.1: of all types and codes only an Echo's and an Error's are looked into.
func TestLookMessages(t *testing.T) {
	inner := spoken(isDatagram, "hello")
	for kind := range 256 {
		for code := range 256 {
			b := packet(usual, 1, 1, 2, message(byte(kind), byte(code), 0x00070008, inner))
			isEcho, isError := (kind == 8 || kind == 0) && code == 0, kind == 3 || kind == 11 || kind == 12
			_, f, err := rewrite.Look(b)
			switch {
			case isEcho && (err != api.OK || f.Src.Port != 7 || f.Dst.Port != 7 || len(f.Inner) != 0),
				isError && (err != api.OK || f.Src.Port != 0 || f.Dst.Port != 0 || len(f.Inner) != 2),
				!isEcho && !isError && (err != api.ErrForm || !sameFlow(f, rewrite.Flow{})):
				t.Errorf("type %d, code %d: %v, %v", kind, code, f, err)
			}
		}
	}
	wantLookError(t, "type 13", packet(usual, 1, 1, 2, message(13, 0, 7, inner)), api.ErrForm)
	wantLookError(t, "an echo of code 1", packet(usual, 1, 1, 2, message(8, 1, 7, inner)), api.ErrForm)
	wantLookError(t, "a reply of code 1", packet(usual, 1, 1, 2, message(0, 1, 7, inner)), api.ErrForm)
}

// P8.1: where two errors would fit, the one that the chapter names first.
func TestLookWhichErrorFirst(t *testing.T) {
	unsealed := func(b []byte) []byte { return with(b, 10, b[10]^1) }
	other := packet(usual, 50, 1, 2, nil)
	wantLookError(t, "the packet's checksum ahead of its Proto", unsealed(other), api.ErrSum)
	wantLookError(t, "the packet's checksum ahead of a short body", unsealed(packet(usual, 17, 1, 2, nil)), api.ErrSum)
	wantLookError(t, "the packet's length ahead of its Proto", with(other, 2, 0, 21), api.ErrShort)
	u := datagram(api.Point{Ip: 1}, api.Point{Ip: 2}, []byte("abc"))
	s := segment(api.Point{Ip: 1}, api.Point{Ip: 2}, 2, make([]byte, 12), nil, nil)
	wantLookError(t, "a datagram's length ahead of its checksum", packet(usual, 17, 1, 2, with(u, 4, 0, 7, 9, 9)), api.ErrForm)
	wantLookError(t, "a longer one", packet(usual, 17, 1, 2, with(u, 4, 0, 12, 9, 9)), api.ErrShort)
	wantLookError(t, "a segment's header ahead of its checksum", packet(usual, 6, 1, 2, with(s, 12, 0x40, 2, 9, 9)), api.ErrForm)
	wantLookError(t, "a longer one", packet(usual, 6, 1, 2, with(s, 12, 0x60, 2, 9, 9)), api.ErrShort)
	wantLookError(t, "a message's checksum ahead of its type", packet(usual, 1, 1, 2, with(message(13, 0, 7, nil), 4, 9)), api.ErrSum)
	wantLookError(t, "a message's checksum ahead of what stands in it", packet(usual, 1, 1, 2, with(message(3, 0, 7, nil), 4, 9)), api.ErrSum)
	wantLookError(t, "a short message ahead of its type", packet(usual, 1, 1, 2, []byte{13, 0, 0, 0, 0, 0, 0}), api.ErrShort)
}

// P8.1: what stands in an Error has its header and 8 bytes behind, whatever the header's length.
func TestLookInnerLengths(t *testing.T) {
	for opts := 0; opts <= 40; opts += 4 {
		for kind := range kinds {
			s := randomStuff(random(uint64(5+opts)), kind)
			s.head.opts, s.body = make([]byte, opts), []byte("more")
			src, dst := api.Point{Ip: 0x31323334, Port: 77}, api.Point{Ip: 0x41424344, Port: 77}
			inner := s.packet(src, dst)
			for n := range len(inner) + 1 {
				b := failed(11, inner[:n])
				if n < 20+opts+8 {
					wantLookError(t, "cut at "+strconv.Itoa(n), b, api.ErrForm)
					continue
				}
				_, f, err := rewrite.Look(b)
				if err != api.OK || len(f.Inner) != 2 || f.Inner[0] != src || f.Inner[1] != dst {
					t.Errorf("options of %d, cut at %d: %v, %v", opts, n, f, err)
				}
			}
		}
	}
}

// P8.1: of all first bytes of what stands in an Error those of version 4 and of at least 20 bytes are taken, if there are so many and 8.
func TestLookInnerForm(t *testing.T) {
	inner := join(spoken(isDatagram, ""), make([]byte, 12))
	for first := range 256 {
		_, f, err := rewrite.Look(failed(12, with(inner, 0, byte(first))))
		words := first & 15
		if first>>4 == 4 && words >= 5 && 4*words+8 <= len(inner) {
			at := inner[4*words:]
			if err != api.OK || f.Inner[0].Port != uint16(at[0])<<8|uint16(at[1]) || f.Inner[1].Ip != 0x08080808 {
				t.Errorf("%02x: %v, %v", first, f, err)
			}
		} else if err != api.ErrForm || !sameFlow(f, rewrite.Flow{}) {
			t.Errorf("%02x: %v, %v", first, f, err)
		}
	}
}

// P8.1: neither the length nor the checksum, nor the part of a whole, is asked of what stands in an Error; nor its own checksum or length.
func TestLookInnerNotAsked(t *testing.T) {
	r := random(7)
	for kind := range kinds {
		inner := spoken(kind, "more")
		want := []api.Point{{Ip: 0x0a000002, Port: 4000}, {Ip: 0x08080808, Port: 4000}}
		for i := range inner {
			told := i == 0 || i == 9 || i >= 12 && i < 24 || kind >= isAsking && i < 26
			if told {
				continue
			}
			for _, now := range []byte{0, 0xff, byte(r.Uint32())} {
				_, f, err := rewrite.Look(failed(3, with(inner, i, now)))
				if err != api.OK || len(f.Inner) != 2 || f.Inner[0] != want[0] || f.Inner[1] != want[1] {
					t.Errorf("kind %d, byte %d is %d: %v, %v", kind, i, now, f, err)
				}
			}
		}
	}
}

// P8.1: what stands in an Error is of one of the three Protos, whatever of a message be an Echo.
func TestLookInnerProtos(t *testing.T) {
	inner := spoken(isAsking, "more")
	for proto := range 256 {
		b := failed(3, with(inner, 9, byte(proto)))
		switch proto {
		case 1, 6, 17:
			if _, f, err := rewrite.Look(b); err != api.OK || len(f.Inner) != 2 {
				t.Errorf("%d: %v, %v", proto, f, err)
			}
		default:
			wantLookError(t, strconv.Itoa(proto), b, api.ErrForm)
		}
	}
	for kind := range 256 {
		for code := range 256 {
			want := api.ErrForm
			if (kind == 8 || kind == 0) && code == 0 {
				want = api.OK
			}
			b := failed(3, with(inner, 20, byte(kind), byte(code)))
			if _, f, err := rewrite.Look(b); err != want || (len(f.Inner) == 2) != (err == api.OK) {
				t.Errorf("type %d, code %d: %v, %v", kind, code, f, err)
			}
		}
	}
	wantLookError(t, "an error in an error", failed(3, failed(3, spoken(isDatagram, ""))), api.ErrForm)
	wantLookError(t, "nothing in an error", failed(3, nil), api.ErrForm)
}

// P8.1: an inner Echo's type and code stand behind its header's options.
func TestLookInnerEchoBehindOptions(t *testing.T) {
	s := stuff{head: head{opts: []byte{9, 9, 9, 9}}, kind: isReply}
	at := api.Point{Ip: 5, Port: 0x0102}
	inner := s.packet(at, at)
	wantFlow(t, "an echo", failed(3, inner), rewrite.Flow{Proto: 1, Src: api.Point{Ip: 0x05060708}, Dst: api.Point{Ip: 0x0a000002}, Inner: []api.Point{at, at}})
	wantLookError(t, "none", failed(3, with(inner, 24, 3)), api.ErrForm)
}
