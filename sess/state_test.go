package sess_test

import (
	"math"
	"testing"

	"lych/api"
	"lych/sess"
)

// step is what follows a state of TCP: behind a packet from inside and one from outside, the same with FlagFin, and any with FlagRst.
type step struct{ in, out, finIn, finOut, rst int }

// steps are those of the sixteen states; what stands and what has ended are written in numbers: 0 open, 1 up, 2 (and 3) closing, 4 ended from inside, 8 from outside.
func steps() [16]step {
	return [16]step{
		{0, 1, 4, 9, 2},
		{1, 1, 5, 9, 2},
		{2, 2, 6, 10, 2},
		{2, 2, 6, 10, 2},
		{4, 5, 4, 14, 6},
		{5, 5, 5, 14, 6},
		{6, 6, 6, 14, 6},
		{6, 6, 6, 14, 6},
		{8, 9, 14, 9, 10},
		{9, 9, 14, 9, 10},
		{10, 10, 14, 10, 10},
		{10, 10, 14, 10, 10},
		{14, 14, 14, 14, 14},
		{14, 14, 14, 14, 14},
		{14, 14, 14, 14, 14},
		{14, 14, 14, 14, 14},
	}
}

// want tells what follows a state behind these flags from a side.
func (s step) want(flags int, in bool) int {
	fin, rst := flags%2 == 1, flags/4%2 == 1
	switch {
	case rst:
		return s.rst
	case fin && in:
		return s.finIn
	case fin:
		return s.finOut
	case in:
		return s.in
	}
	return s.out
}

// others are bits of a state that say nothing.
func others() []int {
	return []int{0, 16, 32, 48, 0x70, 1 << 8, 1 << 31, 1 << 32, 1 << 62, math.MinInt, math.MaxInt &^ 15, ^15}
}

func wantStep(t *testing.T, proto byte, state, flags int, in bool, want int) {
	t.Helper()
	if got := sess.Step(proto, state, byte(flags), in); got != want {
		t.Fatalf("Step(%d, %d, %d, %v) = %d; want %d", proto, state, flags, in, got, want)
	}
}

// P19.2: Step of TCP, in all states, with all flags, from both sides.
func TestStep(t *testing.T) {
	for state, s := range steps() {
		for _, other := range others() {
			for flags := range 256 {
				wantStep(t, 6, state|other, flags, true, s.want(flags, true))
				wantStep(t, 6, state|other, flags, false, s.want(flags, false))
			}
		}
	}
}

// P19.2: Step of other protocols, in all states, with all flags, from both sides.
func TestStepOthers(t *testing.T) {
	for proto := range 256 {
		if proto == 6 {
			continue
		}
		for state := range 16 {
			for _, other := range others() {
				for _, flags := range []int{0, 1, 2, 4, 5, 16, 18, 255} {
					wantStep(t, byte(proto), state|other, flags, true, 1)
					wantStep(t, byte(proto), state|other, flags, false, 1)
				}
			}
		}
		for flags := range 256 {
			wantStep(t, byte(proto), 0, flags, true, 1)
			wantStep(t, byte(proto), 14, flags, false, 1)
		}
	}
}

// P19.2: what Step answers is a state that it has nothing to mend in, and whoever has said the end has said it for good.
func TestStepAgain(t *testing.T) {
	for state := range 16 {
		for flags := range 256 {
			for _, in := range []bool{true, false} {
				got := sess.Step(6, state, byte(flags), in)
				if got < 0 || got > 15 || got%4 == 3 {
					t.Fatalf("Step(6, %d, %d, %v) = %d", state, flags, in, got)
				}
				if state&12&^got != 0 {
					t.Fatalf("Step(6, %d, %d, %v) = %d: an end is gone", state, flags, in, got)
				}
				wantStep(t, 6, got, 2, true, got)
			}
		}
	}
}

// packet is flags from a side, and the state behind it.
type packet struct {
	flags int
	in    bool
	want  int
}

// P19.2: the chapter's example, and how sessions go on and end: each row begins with StateOpen.
func TestStepExample(t *testing.T) {
	const (
		syn, fin, rst, ack = api.FlagSyn, api.FlagFin, api.FlagRst, 16
		open, up, closing  = api.StateOpen, api.StateUp, api.StateClosing
		byIn, byOut        = api.BitIn, api.BitOut
	)
	for _, row := range [][]packet{
		{{syn, true, open}, {syn | ack, false, up}},
		{{syn, true, open}, {syn, true, open}, {syn | ack, false, up}, {ack, true, up}, {ack, false, up}, {fin | ack, true, up | byIn}, {ack, false, up | byIn}, {fin | ack, false, closing | byIn | byOut}, {ack, true, closing | byIn | byOut}},
		{{syn, true, open}, {syn | ack, false, up}, {fin, false, up | byOut}, {fin, false, up | byOut}, {ack, true, up | byOut}, {fin, true, closing | byIn | byOut}},
		{{syn, true, open}, {rst | ack, false, closing}, {syn, true, closing}, {syn | ack, false, closing}, {fin, true, closing | byIn}},
		{{syn, true, open}, {syn | ack, false, up}, {fin, true, up | byIn}, {rst | fin, false, closing | byIn}, {fin, false, closing | byIn | byOut}},
		{{fin, true, open | byIn}, {ack, true, open | byIn}, {ack, false, up | byIn}},
		{{fin, false, up | byOut}, {fin, true, closing | byIn | byOut}, {rst, true, closing | byIn | byOut}},
	} {
		state := open
		for _, x := range row {
			wantStep(t, api.ProtoTcp, state, x.flags, x.in, x.want)
			state = x.want
		}
	}
}

// P19.3: Life of all protocols, in all states.
func TestLife(t *testing.T) {
	tcp := [4]uint32{4, 200, 2, 2}
	for proto := range 256 {
		for state := range 16 {
			for _, other := range others() {
				want := map[int]uint32{1: 6, 17: 30, 6: tcp[state%4]}[proto]
				if got := sess.Life(byte(proto), state|other); got != want {
					t.Fatalf("Life(%d, %d) = %d; want %d", proto, state|other, got, want)
				}
			}
		}
	}
}
