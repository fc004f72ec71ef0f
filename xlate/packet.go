package xlate

import (
	"lych/api"
	"lych/ip"
	"lych/rewrite"
)

// more is the lowest bit of Flags: other fragments come behind this one.
const more = 1

// innerProtoAt is where an error's body tells the protocol of the packet that stands in it: that begins behind the message's 8 bytes.
const innerProtoAt = 8 + 9

// packet is one that may be translated, and who speaks to whom in it.
type packet struct {
	bytes []byte
	flow  rewrite.Flow
	inner byte // an error's: the protocol of the packet that stands in it
}

// dropped is what is panicked with where a packet goes no further, a type of its own, so that it is told from every other panic: the counter that says why.
type dropped int

// translated tells a counter and what way makes of the packet that b begins with.
func translated(b []byte, way func(packet) (int, []byte)) (count int, out []byte) {
	defer func() {
		// way hasn't answered then, so out is still nil. No other panic is a packet's fault: the assertion must hold.
		if told := recover(); told != nil {
			count = int(told.(dropped))
		}
	}()
	return way(read(b))
}

// must drops the packet, if it isn't so.
func must(so bool, counter int) {
	if !so {
		panic(dropped(counter))
	}
}

// read tells the packet that b begins with, if it may be translated.
func read(b []byte) packet {
	head, err := ip.Parse(b)
	must(err == api.OK, api.CountForm)
	must(head.Ttl > 1, api.CountTtl)
	must(head.Flags&more == 0 && head.Offset == 0, api.CountFrag)
	must(isKnown(head.Proto), api.CountProto)
	_, flow, err := rewrite.Look(b)
	must(err == api.OK, api.CountForm)
	p := packet{bytes: b, flow: flow}
	if p.isError() {
		p.inner = head.Body[innerProtoAt]
	}
	return p
}

// isKnown tells whether packets of a protocol are translated.
func isKnown(proto byte) bool {
	return proto == api.ProtoUdp || proto == api.ProtoTcp || proto == api.ProtoIcmp
}

// isError tells whether the packet tells of another one, which stands in it.
func (p packet) isError() bool {
	return len(p.flow.Inner) > 0
}

// isEcho tells whether the packet has an id in place of two ports.
func (p packet) isEcho() bool {
	return p.flow.Proto == api.ProtoIcmp && !p.isError()
}

// sent tells the packet's bytes as they go on, from src to dst; an Echo's with that id.
func (p packet) sent(src, dst api.Point, id uint16) []byte {
	if p.isEcho() {
		src.Port, dst.Port = id, id
	}
	// Nothing is refused: it has been read, its ports fit, and a hop is left.
	b, _ := rewrite.Change(p.bytes, src, dst)
	b, _ = rewrite.Hop(b)
	return b
}

// about tells the error with the packet in it going from src to dst; an Echo with that id.
func (p packet) about(src, dst api.Point, id uint16) packet {
	if p.inner == api.ProtoIcmp {
		src.Port, dst.Port = id, id
	}
	// It isn't refused: it has been read, and its ports fit.
	p.bytes, _ = rewrite.Inner(p.bytes, src, dst)
	return p
}

// errorSent tells the error's bytes as they go on, from src to dst: it has no ports.
func (p packet) errorSent(src, dst uint32) []byte {
	return p.sent(api.Point{Ip: src}, api.Point{Ip: dst}, 0)
}
