package ports

import (
	"math/bits"

	"lych/api"
)

const (
	wordPorts  = 64
	blockWords = 16
	blockPorts = blockWords * wordPorts
)

// place says where a block stands: its first port is number times blockPorts.
type place struct {
	proto  byte
	ip     uint32
	number int
}

// placeOf tells the place of the block that a point lies in.
func placeOf(proto byte, at api.Point) place {
	return place{proto: proto, ip: at.Ip, number: int(at.Port) / blockPorts}
}

// block is which of its blockPorts ports are held, the lowest one in the lowest bit of the first word.
type block [blockWords]uint64

// has tells whether a port is held.
func (b block) has(port uint16) bool {
	word, bit := bitOf(port)
	return b[word]&bit != 0
}

// turn makes a free port a held one, and a held one free.
func (b *block) turn(port uint16) {
	word, bit := bitOf(port)
	b[word] ^= bit
}

// lowest tells the lowest free port of a class in the block that begins with port first, and whether there is one.
func (b block) lowest(first int, c class) (int, bool) {
	for i := range blockWords {
		port := first + i*wordPorts
		if free := c.inWord(port) &^ b[i]; free != 0 {
			return port + bits.TrailingZeros64(free), true
		}
	}
	return 0, false
}

// bitOf tells which bit of which word of its block a port is.
func bitOf(port uint16) (int, uint64) {
	return int(port) % blockPorts / wordPorts, 1 << (port % wordPorts)
}
