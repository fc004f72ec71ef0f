package ports

// firstHigh is the first of the ports from which on a class may be; the other classes lie below it.
const firstHigh = 1024

// evenBits are the bits of a word's even ports.
const evenBits = 0x5555555555555555

// class is ports from lo to hi, even ones or odd ones: none, if lo is above hi.
type class struct {
	lo, hi int
	parity uint64 // the bits that they may have in a word
}

// classOf tells those ports from lo to hi that are of want's class.
func classOf(lo, hi, want uint16) class {
	c := class{lo: int(lo), hi: int(hi), parity: evenBits << (want % 2)}
	if want < firstHigh {
		c.hi = min(c.hi, firstHigh-1)
	} else {
		c.lo = max(c.lo, firstHigh)
	}
	return c
}

// inWord tells which bits of the word that begins with port first are of the class.
func (c class) inWord(first int) uint64 {
	const all = ^uint64(0)
	from := all << max(c.lo-first, 0)
	to := all >> max(first+wordPorts-1-c.hi, 0)
	return c.parity & from & to
}
