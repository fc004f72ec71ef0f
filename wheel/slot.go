package wheel

import "math/bits"

// A tick is written in digits, the lowest one on level 0; each level has a slot a digit.
const (
	digitBits = 4
	digits    = 1 << digitBits
	levels    = 32 / digitBits
)

// slot is the ids that lie in it: nil, if none does, so that an empty one keeps no room.
type slot map[int]struct{}

// put lays an id into it.
func (s *slot) put(id int) {
	if *s == nil {
		*s = slot{}
	}
	(*s)[id] = struct{}{}
}

// drop takes an id out of it.
func (s *slot) drop(id int) {
	delete(*s, id)
	if len(*s) == 0 {
		*s = nil
	}
}

// slotOf tells the slot of a tick's digit on a level.
func slotOf(tick uint32, level int) int {
	return level*digits + int(tick>>(level*digitBits)%digits)
}

// placeOf tells the slot of what is due at a tick: that of its highest digit that isn't now's, so that the slot stays the same until now has that digit too.
// What is due already lies where the next tick does. (Where now + 1 wraps round no Tick comes any more: any slot will do.)
func placeOf(at, now uint32) int {
	if at <= now {
		at = now + 1
	}
	level := (bits.Len32(at^now) - 1) / digitBits
	return slotOf(at, level)
}
