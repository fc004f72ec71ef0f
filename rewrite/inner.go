package rewrite

import (
	"lych/api"
	"lych/icmp"
	"lych/sum"
)

// Where the parts of an inner packet's header lie.
const (
	protoAt   = 9
	sumAt     = 10
	srcAt     = 12
	dstAt     = 16
	leastHead = 20
)

// Where the parts of what an inner packet carries lie: ports, or an Echo's id.
const (
	srcPortAt = 0
	dstPortAt = 2
	idAt      = 4
	leastBody = 8 // what an Error must bring along
)

// version is that of the packets.
const version = 4

// standsIn tells whether b begins with a packet whose points can be told. It may have been cut, so neither its length nor its checksum is asked.
func standsIn(b []byte) bool {
	if len(b) < leastHead || b[0]>>4 != version {
		return false
	}
	head := headOf(b)
	if head < leastHead || len(b) < head+leastBody {
		return false
	}
	switch b[protoAt] {
	case api.ProtoUdp, api.ProtoTcp:
		return true
	case api.ProtoIcmp:
		m, err := icmp.Parse(b[head:])
		return err == api.OK && icmp.Echo(m)
	}
	return false
}

// innerPoints tells the points of the packet that b begins with, its source first.
func innerPoints(b []byte) []api.Point {
	carried := b[headOf(b):]
	src, dst := word(carried[srcPortAt:]), word(carried[dstPortAt:])
	if isEcho(b) {
		id := word(carried[idAt:])
		src, dst = id, id
	}
	return []api.Point{{Ip: long(b[srcAt:]), Port: src}, {Ip: long(b[dstAt:]), Port: dst}}
}

// innerChanged tells the bytes of an Error, the packet that stands in it going from src to dst.
func innerChanged(carried body, src, dst api.Point) ([]byte, api.Errno) {
	m := carried.(api.Icmp)
	if isEcho(m.Body) && src.Port != dst.Port {
		return nil, api.ErrForm
	}
	// m's body is new memory of icmp.Parse's, so it may be written over.
	putAddresses(m.Body, src.Ip, dst.Ip)
	putPorts(m.Body, src.Port, dst.Port)
	return sealed(m), api.OK
}

// putAddresses writes both addresses into b's header and brings its checksum along: one that was wrong stays as wrong.
func putAddresses(b []byte, src, dst uint32) {
	check := word(b[sumAt:])
	for i, now := range [...]uint16{uint16(src >> 16), uint16(src), uint16(dst >> 16), uint16(dst)} {
		at := b[srcAt+2*i:]
		check = sum.Update(check, word(at), now)
		putWord(at, now)
	}
	putWord(b[sumAt:], check)
}

// putPorts writes both ports, or of an Echo the id that they are, behind b's header.
func putPorts(b []byte, src, dst uint16) {
	carried := b[headOf(b):]
	if isEcho(b) {
		putWord(carried[idAt:], src)
		return
	}
	putWord(carried[srcPortAt:], src)
	putWord(carried[dstPortAt:], dst)
}

// isEcho tells whether the packet that b begins with carries an Echo: no other message stands in an Error that is looked into.
func isEcho(b []byte) bool {
	return b[protoAt] == api.ProtoIcmp
}

// headOf tells how many bytes the header has that b begins with.
func headOf(b []byte) int {
	return 4 * int(b[0]&0x0f)
}

// word tells the word that b begins with.
func word(b []byte) uint16 {
	return uint16(b[0])<<8 | uint16(b[1])
}

// long tells the number that b's first four bytes are.
func long(b []byte) uint32 {
	return uint32(word(b))<<16 | uint32(word(b[2:]))
}

// putWord writes w at b's beginning.
func putWord(b []byte, w uint16) {
	b[0], b[1] = byte(w>>8), byte(w)
}
