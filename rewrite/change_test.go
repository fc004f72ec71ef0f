package rewrite_test

import (
	"bytes"
	"strconv"
	"testing"

	"lych/api"
	"lych/rewrite"
)

// port is a point with an address and that port.
func port(n uint16) api.Point { return api.Point{Ip: 0x01020304, Port: n} }

// P8.2: packets of each kind, byte by byte.
func TestChangeKnown(t *testing.T) {
	b, want := knownDatagram()
	got, err := rewrite.Change(b, knownC, knownD)
	wantBytes(t, "a datagram", got, err, want)
	b, want = knownSegment()
	got, err = rewrite.Change(b, knownC, knownD)
	wantBytes(t, "a segment", got, err, want)
	b, want, _ = knownError()
	got, err = rewrite.Change(b, api.Point{Ip: knownC.Ip}, api.Point{Ip: knownD.Ip})
	wantBytes(t, "an error", got, err, want)
}

// P8.2: the chapter's example: an Echo of id 7 changed to 9: 9 on both sides.
func TestExample(t *testing.T) {
	b, want := knownEcho()
	got, err := rewrite.Change(b, api.Point{Ip: knownC.Ip, Port: 9}, api.Point{Ip: knownD.Ip, Port: 9})
	wantBytes(t, "an echo", got, err, want)
	if _, f, err := rewrite.Look(got); err != api.OK || f.Src.Port != 9 || f.Dst.Port != 9 {
		t.Errorf("its flow: %v, %v", f, err)
	}
}

// P8.2: of any packet nothing but its points and its checksums is another; all checksums are right; 0 stays 0.
func TestChangeAnyPacket(t *testing.T) {
	r := random(11)
	for i := range 10000 {
		s := randomStuff(r, i%kinds)
		src, dst := pointsFor(r, s.kind)
		newSrc, newDst := pointsFor(r, s.kind)
		got, err := rewrite.Change(s.packet(src, dst), newSrc, newDst)
		if want := s.packet(newSrc, newDst); err != api.OK || !bytes.Equal(got, want) {
			t.Fatalf("kind %d: % x, %v, want % x", s.kind, got, err, want)
		}
		if _, f, err := rewrite.Look(got); err != api.OK || !sameFlow(f, s.flow(newSrc, newDst)) {
			t.Fatalf("kind %d: %v, %v", s.kind, f, err)
		}
	}
}

// P8.2: an Error's own addresses are changed; what stands in it stays as it stands, right or wrong.
func TestChangeErrors(t *testing.T) {
	r := random(13)
	for i := range 5000 {
		s := randomStuff(r, i%kinds)
		src, dst := pointsFor(r, s.kind)
		inner := s.packet(src, dst)
		if r.IntN(2) == 0 {
			inner[10]++
		}
		h, m := randomHead(r, 4*r.IntN(11)), message([]byte{3, 11, 12}[r.IntN(3)], byte(r.Uint32()), r.Uint32(), inner)
		from, to := r.Uint32(), r.Uint32()
		got, err := rewrite.Change(packet(h, 1, r.Uint32(), r.Uint32(), m), api.Point{Ip: from}, api.Point{Ip: to})
		if want := packet(h, 1, from, to, m); err != api.OK || !bytes.Equal(got, want) {
			t.Fatalf("% x, %v, want % x", got, err, want)
		}
	}
}

// P8.2: a datagram's checksum at all ports: where it would be 0, it is ffff; none stays none.
func TestChangeDatagramSums(t *testing.T) {
	told, none := spoken(isDatagram, "odd"), spoken(isBare, "odd")
	s := stuff{head: usual, kind: isDatagram, body: []byte("odd")}
	bare := s
	bare.kind = isBare
	ones := 0
	for n := range 1 << 16 {
		src, dst := port(uint16(n)), port(1)
		got, err := rewrite.Change(told, src, dst)
		if err != api.OK || !bytes.Equal(got, s.packet(src, dst)) {
			t.Fatalf("port %d: % x, %v", n, got, err)
		}
		if got[26] == 0xff && got[27] == 0xff {
			ones++
		}
		if got, err := rewrite.Change(none, src, dst); err != api.OK || !bytes.Equal(got, bare.packet(src, dst)) || got[26]|got[27] != 0 {
			t.Fatalf("port %d, none: % x, %v", n, got, err)
		}
	}
	if ones == 0 {
		t.Error("no checksum was ffff")
	}
}

// P8.2: a segment's and a message's checksum are as Sum: at each port and id, and 0 of the two noughts.
func TestChangeOtherSums(t *testing.T) {
	seg := stuff{head: usual, kind: isSegment, flags: 0x18, middle: []byte("seq.ack.wiur"), body: []byte("odd")}
	ask := stuff{head: usual, kind: isAsking, row: 5, body: []byte("odd")}
	asked, sent := spoken(isAsking, "odd"), spoken(isSegment, "odd")
	for n := range 1 << 16 {
		at := port(uint16(n))
		if got, err := rewrite.Change(sent, at, port(1)); err != api.OK || !bytes.Equal(got, seg.packet(at, port(1))) {
			t.Fatalf("port %d: % x, %v", n, got, err)
		}
		if got, err := rewrite.Change(asked, at, at); err != api.OK || !bytes.Equal(got, ask.packet(at, at)) {
			t.Fatalf("id %d: % x, %v", n, got, err)
		}
	}
	nought := func(check byte) []byte {
		return packet(usual, 1, 1, 2, []byte{8, 0, check, check, 0xf7, 0xff, 0, 0})
	}
	got, err := rewrite.Change(nought(0xff), api.Point{Ip: 1, Port: 0xf7ff}, api.Point{Ip: 2, Port: 0xf7ff})
	wantBytes(t, "the other nought", got, err, nought(0))
}

// P8.2: what stood behind the packet's length, or a datagram's, is gone; behind a segment or a message nothing stands, so all stays.
func TestChangeWhatStoodBehind(t *testing.T) {
	b, want := knownDatagram()
	tail := []byte{0xe1, 0xe2, 0xe3, 0xe4}
	for n := range 5 {
		got, err := rewrite.Change(join(b, tail[:n]), knownC, knownD)
		wantBytes(t, strconv.Itoa(n)+" behind the packet", got, err, want)
		h := head{0x11, 0x31, 0x2122, 0x4000, nil}
		longer := packet(h, 17, knownA.Ip, knownB.Ip, join(b[20:], tail[:n]))
		got, err = rewrite.Change(longer, knownC, knownD)
		wantBytes(t, strconv.Itoa(n)+" behind the datagram", got, err, want)
		got, err = rewrite.Change(join(longer, tail), knownC, knownD)
		wantBytes(t, strconv.Itoa(n)+" behind the datagram, and behind the packet", got, err, want)
	}
	for _, kind := range []int{isBare, isSegment, isAsking, isReply} {
		s := stuff{head: usual, kind: kind, middle: make([]byte, 12), body: tail}
		got, err := rewrite.Change(join(s.packet(port(5), port(5)), tail), port(6), port(6))
		wantBytes(t, "kind "+strconv.Itoa(kind), got, err, s.packet(port(6), port(6)))
	}
	m := message(3, 1, 7, spoken(isDatagram, "more"))
	got, err := rewrite.Change(join(packet(usual, 1, 1, 2, m), tail), api.Point{Ip: 3}, api.Point{Ip: 4})
	wantBytes(t, "an error", got, err, packet(usual, 1, 3, 4, m))
}

// P8.2: the lower half of a segment's byte 12 says nothing, and is nought.
func TestChangeByteTwelve(t *testing.T) {
	b, want := knownSegment()
	for n := range byte(16) {
		got, err := rewrite.Change(with(b, 24+12, 0x60|n), knownC, knownD)
		wantBytes(t, strconv.Itoa(int(n)), got, err, want)
	}
}

// P8.2: an Error's points have Port 0, both.
func TestChangeErrorsPorts(t *testing.T) {
	for kind := range kinds {
		b := failed(11, spoken(kind, "more"))
		for _, c := range [][2]uint16{{0, 1}, {1, 0}, {1, 1}, {0, 0xffff}, {0x100, 0}, {4000, 4000}} {
			got, err := rewrite.Change(b, port(c[0]), port(c[1]))
			wantRefused(t, strconv.Itoa(kind), got, err, api.ErrForm)
		}
		if got, err := rewrite.Change(b, port(0), port(0)); err != api.OK || len(got) != len(b) {
			t.Errorf("%d: % x, %v", kind, got, err)
		}
	}
}

// P8.2: an Echo's two Ports are alike, whatever they are; a datagram's and a segment's needn't be.
func TestChangePorts(t *testing.T) {
	for _, kind := range []int{isAsking, isReply} {
		b := spoken(kind, "more")
		for _, c := range [][2]uint16{{0, 1}, {1, 0}, {7, 9}, {4000, 4001}, {0x0100, 0x0001}, {0, 0xffff}} {
			got, err := rewrite.Change(b, port(c[0]), port(c[1]))
			wantRefused(t, strconv.Itoa(kind), got, err, api.ErrForm)
		}
		for _, n := range []uint16{0, 1, 0x100, 0xffff} {
			if got, err := rewrite.Change(b, port(n), port(n)); err != api.OK || !bytes.Equal(got[24:26], word(n)) {
				t.Errorf("kind %d, id %d: % x, %v", kind, n, got, err)
			}
		}
	}
	for _, kind := range []int{isDatagram, isBare, isSegment} {
		b := spoken(kind, "more")
		for _, c := range [][2]uint16{{0, 0}, {0, 1}, {1, 0}, {0xffff, 0}, {9, 9}} {
			got, err := rewrite.Change(b, port(c[0]), port(c[1]))
			if err != api.OK || !bytes.Equal(got[20:24], join(word(c[0]), word(c[1]))) {
				t.Errorf("kind %d, %v: % x, %v", kind, c, got, err)
			}
		}
	}
}

// P8.2: the longest packets are changed too.
func TestChangeLongest(t *testing.T) {
	for kind := range kinds {
		s := stuff{head: usual, kind: kind, middle: make([]byte, 12)}
		room := 65535 - len(s.packet(port(5), port(5)))
		s.body = randomBytes(random(17), room)
		got, err := rewrite.Change(s.packet(port(5), port(5)), port(6), port(6))
		if err != api.OK || !bytes.Equal(got, s.packet(port(6), port(6))) {
			t.Errorf("kind %d: %d bytes, %v", kind, len(got), err)
		}
	}
	m := message(3, 1, 7, join(spoken(isDatagram, ""), make([]byte, 65535-20-8-28)))
	got, err := rewrite.Change(packet(usual, 1, 1, 2, m), api.Point{Ip: 3}, api.Point{Ip: 4})
	if err != api.OK || !bytes.Equal(got, packet(usual, 1, 3, 4, m)) {
		t.Errorf("an error: %d bytes, %v", len(got), err)
	}
}

// P8.4: a changed packet, changed back, is the one it was, of each kind, whatever it was changed to.
func TestChangedBack(t *testing.T) {
	r := random(19)
	for i := range 20000 {
		s := randomStuff(r, i%kinds)
		src, dst := pointsFor(r, s.kind)
		b := s.packet(src, dst)
		newSrc, newDst := pointsFor(r, s.kind)
		there, err := rewrite.Change(b, newSrc, newDst)
		if err != api.OK {
			t.Fatalf("% x: %v", b, err)
		}
		if back, err := rewrite.Change(there, src, dst); err != api.OK || !bytes.Equal(back, b) {
			t.Fatalf("% x: % x, %v", b, back, err)
		}
	}
}

// P8.4: at every port, so at every checksum on the way, both noughts among them; and of the flow that Look told.
func TestChangedBackAtEachPort(t *testing.T) {
	for kind := range kinds {
		b := spoken(kind, "odd")
		_, f, _ := rewrite.Look(b)
		for n := range 1 << 16 {
			there, err := rewrite.Change(b, port(uint16(n)), port(uint16(n)))
			if err != api.OK {
				t.Fatalf("kind %d, port %d: %v", kind, n, err)
			}
			if back, err := rewrite.Change(there, f.Src, f.Dst); err != api.OK || !bytes.Equal(back, b) {
				t.Fatalf("kind %d, port %d: % x, %v", kind, n, back, err)
			}
		}
	}
}

// P8.4: an Error too; and one that has been changed is changed back to itself, though what stood behind is gone.
func TestChangedBackMore(t *testing.T) {
	r := random(23)
	for i := range 5000 {
		b := packet(randomHead(r, 4*r.IntN(11)), 1, 0x01020304, 0x05060708, message(3, byte(i), r.Uint32(), spoken(i%kinds, "more")))
		there, err := rewrite.Change(b, api.Point{Ip: r.Uint32()}, api.Point{Ip: r.Uint32()})
		if err != api.OK {
			t.Fatalf("% x: %v", b, err)
		}
		back, err := rewrite.Change(there, api.Point{Ip: 0x01020304}, api.Point{Ip: 0x05060708})
		wantBytes(t, "an error", back, err, b)
	}
	b, want := knownSegment()
	there, _ := rewrite.Change(join(with(b, 36, 0x6f), []byte("tail")), knownC, knownD)
	back, err := rewrite.Change(there, knownA, knownB)
	wantBytes(t, "back", back, err, b)
	there, err = rewrite.Change(back, knownC, knownD)
	wantBytes(t, "there again", there, err, want)
}
