package sess

import "lych/api"

// standBits are the bits of a state that say how it stands; bothEnds those that are set when both sides have said their end.
const (
	standBits = 3
	bothEnds  = api.BitIn | api.BitOut
)

// Step tells the state behind a packet with these flags, from inside or from outside.
func Step(proto byte, state int, flags byte, in bool) int {
	if proto != api.ProtoTcp {
		return api.StateUp
	}
	stand, ends := standOf(state), state&bothEnds
	if flags&api.FlagRst != 0 {
		return api.StateClosing | ends
	}
	if flags&api.FlagFin != 0 {
		ends |= endOf(in)
	}
	if ends == bothEnds {
		stand = api.StateClosing
	} else if stand == api.StateOpen && !in {
		stand = api.StateUp
	}
	return stand | ends
}

// Life tells how many ticks a session in that state lives on.
func Life(proto byte, state int) uint32 {
	switch proto {
	case api.ProtoIcmp:
		return api.LifeIcmp
	case api.ProtoUdp:
		return api.LifeUdp
	case api.ProtoTcp:
		return lifeOf(standOf(state))
	}
	return 0
}

// lifeOf tells the same of TCP, by how it stands.
func lifeOf(stand int) uint32 {
	switch stand {
	case api.StateOpen:
		return api.LifeOpen
	case api.StateUp:
		return api.LifeTcp
	}
	return api.LifeClose
}

// standOf tells how a state stands: open, up or closing, which has two numbers.
func standOf(state int) int {
	return min(state&standBits, api.StateClosing)
}

// endOf tells the bit of an end that is said from inside, or from outside.
func endOf(in bool) int {
	if in {
		return api.BitIn
	}
	return api.BitOut
}
