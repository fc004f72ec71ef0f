// Package sum: The Internet's checksum (RFC 1071, RFC 1624): see doc/01-sum.md.
package sum

// Add tells start and b's words summed, each carry out of 32 bits put on again at the lowest bit.
func Add(start uint32, b []byte) uint32 {
	s := start
	for i := range count(b) {
		w := uint32(word(b, i))
		s += w
		// A sum that is less than what was added has gone round; it is below ffff then, so this 1 makes no further carry.
		if s < w {
			s++
		}
	}
	return s
}

// Fold tells s's halves summed, till one half holds all.
func Fold(s uint32) uint16 {
	// Twice may be needed: the halves' first sum may be beyond 16 bits itself.
	for s>>16 != 0 {
		s = halves(s)
	}
	return uint16(s)
}

// Of tells b's checksum.
func Of(b []byte) uint16 {
	return ^Fold(Add(0, b))
}

// Pseudo tells the folded sum of the pseudo header that UDP and TCP sum ahead of their own bytes.
func Pseudo(src, dst uint32, proto byte, n int) uint32 {
	// Six words can't go beyond 32 bits, so a plain sum is enough.
	s := halves(src) + halves(dst) + uint32(proto) + uint32(uint16(n))
	return uint32(Fold(s))
}

// Update tells the checksum old of bytes in which one word was was and is now, by RFC 1624's third equation.
func Update(old, was, now uint16) uint16 {
	return ^Fold(uint32(^old) + uint32(^was) + uint32(now))
}

// Words tells b as 16-bit words.
func Words(b []byte) []uint16 {
	out := make([]uint16, count(b))
	for i := range count(b) {
		out[i] = word(b, i)
	}
	return out
}

// count tells how many words b has, a byte that is left being one.
func count(b []byte) int {
	return len(b)/2 + len(b)%2
}

// word tells b's i-th word, the higher byte first.
func word(b []byte, i int) uint16 {
	w := uint16(b[2*i]) << 8
	if 2*i+1 < len(b) {
		w |= uint16(b[2*i+1])
	}
	return w
}

// halves tells the upper and the lower half of x summed.
func halves(x uint32) uint32 {
	return x>>16 + x&0xffff
}
