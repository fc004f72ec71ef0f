package xlate_test

import (
	"bytes"
	"math/rand/v2"
	"slices"

	"lych/api"
)

func random(seed uint64) *rand.Rand { return rand.New(rand.NewPCG(seed, 21)) }

func randomBytes(r *rand.Rand, n int) []byte {
	b := make([]byte, n)
	for i := range b {
		b[i] = byte(r.Uint32())
	}
	return b
}

// one tells one of a list, at random.
func one[T any](r *rand.Rand, list ...T) T { return list[r.IntN(len(list))] }

func point(ip uint32, port int) api.Point { return api.Point{Ip: ip, Port: uint16(port)} }

// join is all rows, one behind the other.
func join(rows ...[]byte) []byte { return slices.Concat(rows...) }

// word and long are a number's bytes, the highest first.
func word(w uint16) []byte { return []byte{byte(w >> 8), byte(w)} }
func long(x uint32) []byte { return join(word(uint16(x>>16)), word(uint16(x))) }

// summed is b's words, told without the program: a plain sum of whole numbers, brought to 1 .. ffff by its rest, but 0 where all are noughts.
func summed(b []byte) uint16 {
	s := uint64(0)
	for i, x := range b {
		if i%2 == 0 {
			s += 256 * uint64(x)
		} else {
			s += uint64(x)
		}
	}
	if s == 0 {
		return 0
	}
	return uint16((s-1)%0xffff + 1)
}

// sealed is b with its checksum at that place, told of what stands ahead of b too.
func sealed(ahead, b []byte, at int) []byte {
	out := bytes.Clone(b)
	out[at], out[at+1] = 0, 0
	copy(out[at:], word(0xffff-summed(join(ahead, out))))
	return out
}

// updated is a checksum in which one word was was and is now: RFC 1624's third equation in whole numbers.
func updated(old, was, now uint16) uint16 {
	s := (0xffff - int(old)) + (0xffff - int(was)) + int(now)
	if s == 0 {
		return 0xffff
	}
	return uint16(0xffff - ((s-1)%0xffff + 1))
}

// wordAt is the word that stands at that place.
func wordAt(b []byte, at int) uint16 { return uint16(b[at])<<8 | uint16(b[at+1]) }

// moved is what becomes of an inner packet: its addresses word by word, its checksum along with them, its ports or its id.
func moved(inner []byte, src, dst api.Point) []byte {
	out := bytes.Clone(inner)
	check := wordAt(out, 10)
	for i, now := range []uint16{uint16(src.Ip >> 16), uint16(src.Ip), uint16(dst.Ip >> 16), uint16(dst.Ip)} {
		check = updated(check, wordAt(out, 12+2*i), now)
		copy(out[12+2*i:], word(now))
	}
	copy(out[10:], word(check))
	at := 4 * int(out[0]&15)
	if out[9] == 1 {
		copy(out[at+4:], word(src.Port))
	} else {
		copy(out[at:], join(word(src.Port), word(dst.Port)))
	}
	return out
}

// The kinds of packets.
const (
	isDatagram = iota
	isBare     // a datagram without a checksum
	isSegment
	isAsking // an echo of type 8
	isReply  // an echo of type 0
	kinds
	isError = kinds // an error of that kind, with another packet in it
)

// Flaws of packets.
const (
	isWhole      = iota
	isHeadSpoilt // another checksum of its header
	isBodySpoilt // another checksum of what it carries, or of a datagram a length that none has
	flaws
)

// talk is a packet, told without the program.
type talk struct {
	tos, ttl           byte
	id, frag           uint16
	proto              byte // where it isn't its kind's
	flaw               int
	kind               int
	src, dst           api.Point
	flags              byte
	row                uint16
	head               []byte // its options
	middle, opts, body []byte
	failed             byte // an error's type
	inner              []byte
}

// spoken is a packet of a kind, ordinary in all; an echo's id is src's port.
func spoken(kind int, src, dst api.Point) talk {
	x := talk{ttl: 64, kind: kind, src: src, dst: dst, flags: 0x18, row: 5, middle: []byte("seq.ack.wiur"), body: []byte("ping"), failed: 3}
	if x.isEcho() {
		x.dst.Port = x.src.Port
	}
	return x
}

func datagram(src, dst api.Point) talk { return spoken(isDatagram, src, dst) }

func segment(src, dst api.Point, flags byte) talk {
	x := spoken(isSegment, src, dst)
	x.flags = flags
	return x
}

func echo(src, dst uint32, id int) talk {
	return spoken(isAsking, point(src, id), point(dst, 0))
}

// failure is an error from one to the other about inner.
func failure(src, dst uint32, inner talk) talk {
	x := spoken(isError, point(src, 0), point(dst, 0))
	x.inner = inner.bytes()
	return x
}

// protoOf is a kind's Proto.
func protoOf(kind int) byte {
	return []byte{17, 17, 6, 1, 1, 1}[kind]
}

// isEcho tells whether the packet has an id in place of ports.
func (x talk) isEcho() bool { return x.kind == isAsking || x.kind == isReply }

// carried is the bytes of what the packet carries, its checksum right.
func (x talk) carried() []byte {
	ahead := func(n int) []byte {
		return join(long(x.src.Ip), long(x.dst.Ip), []byte{0, protoOf(x.kind)}, word(uint16(n)))
	}
	message := func(kind, code byte, rest, body []byte) []byte {
		return sealed(nil, join([]byte{kind, code, 0, 0}, rest, body), 2)
	}
	switch x.kind {
	case isDatagram, isBare:
		b := join(word(x.src.Port), word(x.dst.Port), word(uint16(8+len(x.body))), []byte{0, 0}, x.body)
		if x.kind == isBare {
			return b
		}
		b = sealed(ahead(len(b)), b, 6)
		if b[6] == 0 && b[7] == 0 {
			b[6], b[7] = 0xff, 0xff
		}
		return b
	case isSegment:
		b := join(word(x.src.Port), word(x.dst.Port), x.middle[:8], []byte{byte((20+len(x.opts))/4) << 4, x.flags}, x.middle[8:10], []byte{0, 0}, x.middle[10:12], x.opts, x.body)
		return sealed(ahead(len(b)), b, 16)
	case isAsking:
		return message(8, 0, join(word(x.src.Port), word(x.row)), x.body)
	case isReply:
		return message(0, 0, join(word(x.src.Port), word(x.row)), x.body)
	}
	return message(x.failed, x.flags, x.middle[:4], x.inner)
}

// spoilt is what the packet carries with its flaw.
func (x talk) spoilt() []byte {
	b := x.carried()
	if x.flaw != isBodySpoilt {
		return b
	}
	switch x.kind {
	case isDatagram, isBare:
		copy(b[4:], word(7))
	case isSegment:
		b[17] ^= 5
	default:
		b[3] ^= 5
	}
	return b
}

// bytes is the packet's.
func (x talk) bytes() []byte {
	body := x.spoilt()
	n := 20 + len(x.head)
	proto := x.proto
	if proto == 0 {
		proto = protoOf(x.kind)
	}
	b := join([]byte{byte(0x40 | n/4), x.tos}, word(uint16(n+len(body))), word(x.id), word(x.frag),
		[]byte{x.ttl, proto, 0, 0}, long(x.src.Ip), long(x.dst.Ip), x.head)
	b = sealed(nil, b, 10)
	if x.flaw == isHeadSpoilt {
		b[11] ^= 1
	}
	return join(b, body)
}

// to is the packet to another point.
func (x talk) to(dst api.Point) talk {
	x.dst = dst
	return x
}

// goes is the packet as it is to go on, from src to dst.
func (x talk) goes(src, dst api.Point) talk {
	x.ttl--
	x.src, x.dst = src, dst
	return x
}

// fails is the error as it is to go on, from src to dst, the packet in it from innerSrc to innerDst.
func (x talk) fails(src, dst uint32, innerSrc, innerDst api.Point) talk {
	x = x.goes(point(src, 0), point(dst, 0))
	x.inner = moved(x.inner, innerSrc, innerDst)
	return x
}

// randomTalk is one of a kind that says anything beside its points.
func randomTalk(r *rand.Rand, kind int, src, dst api.Point) talk {
	x := spoken(kind, src, dst)
	x.tos, x.ttl, x.id, x.frag = byte(r.Uint32()), byte(2+r.IntN(254)), uint16(r.Uint32()), one(r, uint16(0), 0x4000, 0x8000, 0xc000)
	x.flags, x.row = byte(r.Uint32()), uint16(r.Uint32())
	if r.IntN(2) == 0 {
		x.flags = one[byte](r, 0, 1, 2, 4, 16, 17, 18)
	}
	x.head, x.middle, x.opts, x.body = randomBytes(r, 4*r.IntN(11)), randomBytes(r, 12), randomBytes(r, 4*r.IntN(11)), randomBytes(r, r.IntN(30))
	x.failed = one[byte](r, 3, 11, 12)
	return x
}
