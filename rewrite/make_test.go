package rewrite_test

import (
	"bytes"
	"encoding/hex"
	"math/rand/v2"
	"slices"
	"strings"
	"testing"

	"lych/api"
	"lych/rewrite"
)

func random(seed uint64) *rand.Rand { return rand.New(rand.NewPCG(seed, 8)) }

func randomBytes(r *rand.Rand, n int) []byte {
	b := make([]byte, n)
	for i := range b {
		b[i] = byte(r.Uint32())
	}
	return b
}

func randomPoint(r *rand.Rand) api.Point {
	return api.Point{Ip: r.Uint32(), Port: uint16(r.Uint32())}
}

// fromHex is the bytes that a text of hexadecimal digits tells.
func fromHex(text string) []byte {
	b, err := hex.DecodeString(strings.Join(strings.Fields(text), ""))
	if err != nil {
		panic(err)
	}
	return b
}

// join is all rows, one behind the other.
func join(rows ...[]byte) []byte { return slices.Concat(rows...) }

// word and long are a number's bytes, the highest first.
func word(w uint16) []byte { return []byte{byte(w >> 8), byte(w)} }
func long(x uint32) []byte { return join(word(uint16(x>>16)), word(uint16(x))) }

// summed is b's words, told without the program: a plain sum of whole numbers, brought to 1 .. ffff by its rest, but 0 where all are noughts.
func summed(b []byte) uint16 {
	s := uint64(0)
	for i, x := range b {
		if i%2 == 0 {
			s += 256 * uint64(x)
		} else {
			s += uint64(x)
		}
	}
	if s == 0 {
		return 0
	}
	return uint16((s-1)%0xffff + 1)
}

// sealed is b with its checksum at that place, told of what stands ahead of b too.
func sealed(ahead, b []byte, at int) []byte {
	out := bytes.Clone(b)
	out[at], out[at+1] = 0, 0
	copy(out[at:], word(0xffff-summed(join(ahead, out))))
	return out
}

// head is what a packet's header says beside its addresses and lengths.
type head struct {
	tos, ttl byte
	id, frag uint16
	opts     []byte
}

var usual = head{ttl: 64}

// randomHead is one with that many bytes of options.
func randomHead(r *rand.Rand, opts int) head {
	return head{byte(r.Uint32()), byte(r.Uint32()), uint16(r.Uint32()), uint16(r.Uint32()), randomBytes(r, opts)}
}

// packet is one's bytes, told without the program.
func packet(h head, proto byte, src, dst uint32, body []byte) []byte {
	n := 20 + len(h.opts)
	b := join([]byte{byte(0x40 | n/4), h.tos}, word(uint16(n+len(body))), word(h.id), word(h.frag),
		[]byte{h.ttl, proto, 0, 0}, long(src), long(dst), h.opts)
	return join(sealed(nil, b, 10), body)
}

// pseudo is the words that a checksum has ahead of a datagram or a segment.
func pseudo(src, dst uint32, proto byte, n int) []byte {
	return join(long(src), long(dst), []byte{0, proto}, word(uint16(n)))
}

// datagram, segment, echo and failure are bodies, told without the program.
func datagram(src, dst api.Point, body []byte) []byte {
	b := join(word(src.Port), word(dst.Port), word(uint16(8+len(body))), []byte{0, 0}, body)
	b = sealed(pseudo(src.Ip, dst.Ip, 17, len(b)), b, 6)
	if b[6] == 0 && b[7] == 0 {
		b[6], b[7] = 0xff, 0xff
	}
	return b
}

func segment(src, dst api.Point, flags byte, middle, opts, body []byte) []byte {
	b := join(word(src.Port), word(dst.Port), middle[:8], []byte{byte((20+len(opts))/4) << 4, flags}, middle[8:10], []byte{0, 0}, middle[10:12], opts, body)
	return sealed(pseudo(src.Ip, dst.Ip, 6, len(b)), b, 16)
}

func message(kind, code byte, rest uint32, body []byte) []byte {
	return sealed(nil, join([]byte{kind, code, 0, 0}, long(rest), body), 2)
}

func echo(kind byte, id, row uint16, body []byte) []byte {
	return message(kind, 0, uint32(id)<<16|uint32(row), body)
}

// The kinds of bodies.
const (
	isDatagram = iota
	isBare     // a datagram without a checksum
	isSegment
	isAsking // an echo of type 8
	isReply  // an echo of type 0
	kinds
)

// protoOf is a kind's Proto.
func protoOf(kind int) byte {
	return []byte{17, 17, 6, 1, 1}[kind]
}

// stuff is what a packet holds beside its points: the same stuff with other points is the packet that Change must tell.
type stuff struct {
	head
	kind               int
	flags              byte
	row                uint16
	middle, opts, body []byte
}

func randomStuff(r *rand.Rand, kind int) stuff {
	return stuff{randomHead(r, 4*r.IntN(11)), kind, byte(r.Uint32()), uint16(r.Uint32()),
		randomBytes(r, 12), randomBytes(r, 4*r.IntN(11)), randomBytes(r, r.IntN(40))}
}

// carried is the bytes of what the packet with that stuff carries between these points.
func (s stuff) carried(src, dst api.Point) []byte {
	switch s.kind {
	case isDatagram:
		return datagram(src, dst, s.body)
	case isBare:
		b := datagram(src, dst, s.body)
		b[6], b[7] = 0, 0
		return b
	case isSegment:
		return segment(src, dst, s.flags, s.middle, s.opts, s.body)
	case isAsking:
		return echo(8, src.Port, s.row, s.body)
	}
	return echo(0, src.Port, s.row, s.body)
}

// packet is the packet with that stuff between these points.
func (s stuff) packet(src, dst api.Point) []byte {
	return packet(s.head, protoOf(s.kind), src.Ip, dst.Ip, s.carried(src, dst))
}

// flow is what Look must tell of it.
func (s stuff) flow(src, dst api.Point) rewrite.Flow {
	f := rewrite.Flow{Proto: protoOf(s.kind), Src: src, Dst: dst}
	if s.kind == isSegment {
		f.Flags = s.flags
	}
	return f
}

// pointsFor is two points that a packet of that kind may have: of an echo the ports are alike.
func pointsFor(r *rand.Rand, kind int) (src, dst api.Point) {
	src, dst = randomPoint(r), randomPoint(r)
	if kind == isAsking || kind == isReply {
		dst.Port = src.Port
	}
	return src, dst
}

// spoken is a packet, ordinary in all, of each kind; its ports are alike, so that it may be an echo.
func spoken(kind int, body string) []byte {
	s := stuff{head: usual, kind: kind, flags: 0x18, row: 5, middle: []byte("seq.ack.wiur"), body: []byte(body)}
	return s.packet(api.Point{Ip: 0x0a000002, Port: 4000}, api.Point{Ip: 0x08080808, Port: 4000})
}

// failed is a packet that carries an Error of that type with inner in it.
func failed(kind byte, inner []byte) []byte {
	return packet(usual, 1, 0x05060708, 0x0a000002, message(kind, 1, 0x11223344, inner))
}

// sameFlow tells whether two flows are alike, no list and an empty one being one.
func sameFlow(a, b rewrite.Flow) bool {
	return a.Proto == b.Proto && a.Src == b.Src && a.Dst == b.Dst && a.Flags == b.Flags && slices.Equal(a.Inner, b.Inner)
}

// samePacket tells whether two packets are alike, no list and an empty one being one.
func samePacket(a, b api.Ip) bool {
	return a.Tos == b.Tos && a.Ttl == b.Ttl && a.Proto == b.Proto && a.Id == b.Id &&
		a.Flags == b.Flags && a.Offset == b.Offset && a.Src == b.Src && a.Dst == b.Dst &&
		bytes.Equal(a.Opts, b.Opts) && bytes.Equal(a.Body, b.Body)
}

// wantFlow holds Look to a flow.
func wantFlow(t *testing.T, what string, b []byte, want rewrite.Flow) {
	t.Helper()
	if _, got, err := rewrite.Look(b); err != api.OK || !sameFlow(got, want) {
		t.Errorf("%s: %v, %v, want %v", what, got, err, want)
	}
}

// wantLookError holds Look to an error, and to nothing beside it; and Change and Inner to the same one, whatever points they are told.
func wantLookError(t *testing.T, what string, b []byte, want api.Errno) {
	t.Helper()
	if p, f, err := rewrite.Look(b); err != want || !samePacket(p, api.Ip{}) || !sameFlow(f, rewrite.Flow{}) {
		t.Errorf("%s: Look: %v, %v, %v, want %v", what, p, f, err, want)
	}
	for _, at := range [][2]api.Point{{}, {{Ip: 1, Port: 7}, {Ip: 2, Port: 7}}, {{Ip: 1, Port: 7}, {Ip: 2, Port: 8}}} {
		if got, err := rewrite.Change(b, at[0], at[1]); err != want || len(got) != 0 {
			t.Errorf("%s: Change: % x, %v, want %v", what, got, err, want)
		}
		if got, err := rewrite.Inner(b, at[0], at[1]); err != want || len(got) != 0 {
			t.Errorf("%s: Inner: % x, %v, want %v", what, got, err, want)
		}
	}
}

// wantBytes holds an answer to bytes.
func wantBytes(t *testing.T, what string, got []byte, err api.Errno, want []byte) {
	t.Helper()
	if err != api.OK || !bytes.Equal(got, want) {
		t.Errorf("%s:\n% x, %v, want\n% x", what, got, err, want)
	}
}

// wantRefused holds an answer to an error, and to nothing beside it.
func wantRefused(t *testing.T, what string, got []byte, err, want api.Errno) {
	t.Helper()
	if err != want || len(got) != 0 {
		t.Errorf("%s: % x, %v, want %v", what, got, err, want)
	}
}

// with is b with those bytes at that place.
func with(b []byte, at int, now ...byte) []byte {
	out := bytes.Clone(b)
	copy(out[at:], now)
	return out
}

// Packets each of whose bytes was worked out apart from the program: a swapped or shifted part shows.
var (
	knownA = api.Point{Ip: 0x0a000002, Port: 0x0fa0}
	knownB = api.Point{Ip: 0x08090a0b, Port: 0x0035}
	knownC = api.Point{Ip: 0xc6c7c8c9, Port: 0x4041}
	knownD = api.Point{Ip: 0x51525354, Port: 0x5556}
)

// from A to B, and the same from C to D.
func knownDatagram() (b, changed []byte) {
	return fromHex(`4511001f 21224000 31110c86 0a000002 08090a0b 0fa00035 000b8f4a a1a2a3`),
		fromHex(`4511001f 21224000 3111f463 c6c7c8c9 51525354 40415556 000bf165 a1a2a3`)
}

func knownSegment() (b, changed []byte) {
	return fromHex(`46110031 21224000 31060678 0a000002 08090a0b 81828384 0fa00035 61626364 65666768 60126a6b 838b6e6f 71727374 a1`),
		fromHex(`46110031 21224000 3106ee55 c6c7c8c9 51525354 81828384 40415556 61626364 65666768 60126a6b e5a66e6f 71727374 a1`)
}

// of id 7, and the same of id 9.
func knownEcho() (b, changed []byte) {
	return fromHex(`4511001e 21224000 31010c97 0a000002 08090a0b 0800e3e2 00077273 a1a2`),
		fromHex(`4511001e 21224000 3101f474 c6c7c8c9 51525354 0800e3e0 00097273 a1a2`)
}

// an Error of the known datagram, without what that carries: changed itself, and the datagram in it.
func knownError() (b, changed, inner []byte) {
	const in = `4511001f 21224000 31110c86 0a000002 08090a0b 0fa00035 000b8f4a`
	return fromHex(`45110038 21224000 310159c0 5b5c5d5e 0a0b0c0d 030338ab 91929394` + in),
		fromHex(`45110038 21224000 3101f45a c6c7c8c9 51525354 030338ab 91929394` + in),
		fromHex(`45110038 21224000 310159c0 5b5c5d5e 0a0b0c0d 0303b2e8 91929394
			4511001f 21224000 3111f463 c6c7c8c9 51525354 40415556 000b8f4a`)
}
