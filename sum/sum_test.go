package sum_test

import (
	"bytes"
	"math"
	"math/rand/v2"
	"slices"
	"testing"

	"lych/sum"
)

// The model here is told by whole numbers of 64 bits, not in the way of the package: a ones' complement sum is a rest by 2^k - 1, with nought only for a sum that is nought.

// rest tells x brought below 2^k as a ones' complement sum.
func rest(x uint64, k uint) uint64 {
	if x == 0 {
		return 0
	}
	return (x-1)%(1<<k-1) + 1
}

// wordsOf tells b's words, a nought put behind an odd byte first.
func wordsOf(b []byte) []uint16 {
	c := append([]byte{}, b...)
	if len(c)%2 == 1 {
		c = append(c, 0)
	}
	var out []uint16
	for ; len(c) > 0; c = c[2:] {
		out = append(out, uint16(c[0])*256+uint16(c[1]))
	}
	return out
}

// total tells all of b's words summed, whole.
func total(b []byte) uint64 {
	s := uint64(0)
	for _, w := range wordsOf(b) {
		s += uint64(w)
	}
	return s
}

func random(seed uint64) *rand.Rand { return rand.New(rand.NewPCG(seed, 1)) }

func randomBytes(r *rand.Rand, n int) []byte {
	b := make([]byte, n)
	for i := range b {
		b[i] = byte(r.Uint32())
	}
	return b
}

// samples tells lists of bytes: all short lengths, noughts, ones, and mixed ones.
func samples() [][]byte {
	r := random(3)
	out := [][]byte{nil, {}}
	for n := 1; n <= 70; n++ {
		out = append(out, make([]byte, n), bytes.Repeat([]byte{0xff}, n), randomBytes(r, n), randomBytes(r, n))
	}
	return append(out, randomBytes(r, 1600), randomBytes(r, 65535))
}

// edges tells words of 16 bits at and about where carries begin.
func edges() []uint16 {
	return []uint16{0, 1, 2, 0xff, 0x100, 0x7fff, 0x8000, 0xfffd, 0xfffe, 0xffff}
}

// P1.1: Words.
func TestWords(t *testing.T) {
	for _, c := range []struct {
		b    []byte
		want []uint16
	}{
		{nil, nil},
		{[]byte{}, nil},
		{[]byte{0}, []uint16{0}},
		{[]byte{1}, []uint16{0x100}},
		{[]byte{0xff}, []uint16{0xff00}},
		{[]byte{0, 0}, []uint16{0}},
		{[]byte{1, 2}, []uint16{0x102}},
		{[]byte{1, 2, 3}, []uint16{0x102, 0x300}},
		{[]byte{0xff, 0xfe, 0xfd, 0xfc, 0xfb}, []uint16{0xfffe, 0xfdfc, 0xfb00}},
	} {
		if got := sum.Words(c.b); !slices.Equal(got, c.want) {
			t.Errorf("Words(% x) = %04x, want %04x", c.b, got, c.want)
		}
	}
	for _, b := range samples() {
		if got := sum.Words(b); !slices.Equal(got, wordsOf(b)) {
			t.Fatalf("Words(% x) = %04x", b, got)
		}
	}
}

// P1.1: the byte behind an odd one is nought, even where there is another in the spare room.
func TestSpareRoomSaysNothing(t *testing.T) {
	b := []byte{1, 2, 3, 4}[:3]
	if got := sum.Words(b); !slices.Equal(got, []uint16{0x102, 0x300}) {
		t.Errorf("Words: %04x", got)
	}
	if got := sum.Add(0, b); got != 0x402 {
		t.Errorf("Add: %x", got)
	}
	if got := sum.Of(b); got != 0xfbfd {
		t.Errorf("Of: %04x", got)
	}
}

// P1.1: Add at every kind of start, at 2^32 - 1 and one beyond.
func TestAdd(t *testing.T) {
	for _, c := range []struct {
		start uint32
		b     []byte
		want  uint32
	}{
		{0, nil, 0},
		{7, nil, 7},
		{0xffffffff, nil, 0xffffffff},
		{0xffffffff, []byte{}, 0xffffffff},
		{0, []byte{0, 0, 0}, 0},
		{0, []byte{1}, 0x100},
		{0, []byte{0xff, 0xff, 0xff, 0xff}, 0x1fffe},
		{0x12340000, []byte{0, 1, 2}, 0x12340201},
		{0xffffffff, []byte{0, 0}, 0xffffffff},
		{0xfffffffe, []byte{0, 1}, 0xffffffff},
		{0xffffffff, []byte{0, 1}, 1},
		{0xffffffff, []byte{0, 1, 0, 1}, 2},
		{0xffffffff, []byte{1}, 0x100},
		{0xffff0000, []byte{0xff, 0xff}, 0xffffffff},
		{0xffff0001, []byte{0xff, 0xff}, 1},
		{0xffff0002, []byte{0xff, 0xff}, 2},
		{0xffffffff, []byte{0xff, 0xff}, 0xffff},
	} {
		if got := sum.Add(c.start, c.b); got != c.want {
			t.Errorf("Add(%x, % x) = %x, want %x", c.start, c.b, got, c.want)
		}
	}
	r := random(5)
	for _, b := range samples() {
		for _, start := range []uint32{0, 1, 0xffff, 0x10000, 0xfffeffff, 0xfffffffe, 0xffffffff, r.Uint32(), r.Uint32() | 0xffff0000} {
			if got := sum.Add(start, b); uint64(got) != rest(uint64(start)+total(b), 32) {
				t.Fatalf("Add(%x, % x) = %x", start, b, got)
			}
		}
	}
}

// P1.1: a sum that goes beyond 2^32 - 1 more than once.
func TestAddCarriesAgain(t *testing.T) {
	b := bytes.Repeat([]byte{0xff}, 1<<20+1)
	if total(b)>>32 < 3 {
		t.Fatal("too few bytes for this test")
	}
	for _, start := range []uint32{0, 1, 0x80000000, 0xffffffff} {
		if got, want := sum.Add(start, b), rest(uint64(start)+total(b), 32); uint64(got) != want {
			t.Errorf("Add(%x, ..) = %x, want %x", start, got, want)
		}
	}
}

// P1.1: Fold, with halves that carry not at all, once, and once more.
func TestFold(t *testing.T) {
	for _, c := range []struct {
		s    uint32
		want uint16
	}{
		{0, 0},
		{1, 1},
		{0xffff, 0xffff},
		{0x10000, 1},
		{0x1fffe, 0xffff},
		{0x1ffff, 1},
		{0x20000, 2},
		{0xfffe0001, 0xffff},
		{0xfffeffff, 0xfffe},
		{0xffff0000, 0xffff},
		{0xffff0001, 1},
		{0xfffffffe, 0xfffe},
		{0xffffffff, 0xffff},
	} {
		if got := sum.Fold(c.s); got != c.want {
			t.Errorf("Fold(%x) = %x, want %x", c.s, got, c.want)
		}
	}
	r := random(7)
	for range 100000 {
		s := r.Uint32()
		if got := sum.Fold(s); uint64(got) != rest(uint64(s), 16) {
			t.Fatalf("Fold(%x) = %x", s, got)
		}
	}
	for _, hi := range edges() {
		for _, lo := range edges() {
			s := uint32(hi)<<16 | uint32(lo)
			if got := sum.Fold(s); uint64(got) != rest(uint64(s), 16) {
				t.Errorf("Fold(%x) = %x", s, got)
			}
		}
	}
}

// P1.1: Of, the chapter's example first.
func TestOf(t *testing.T) {
	for _, c := range []struct {
		b    []byte
		want uint16
	}{
		{[]byte{0x00, 0x01, 0xf2, 0x03, 0xf4, 0xf5, 0xf6, 0xf7}, 0x220d},
		{nil, 0xffff},
		{[]byte{}, 0xffff},
		{[]byte{0}, 0xffff},
		{[]byte{0, 0}, 0xffff},
		{[]byte{0xff, 0xff}, 0},
		{[]byte{0xff, 0xff, 0, 0}, 0},
		{[]byte{0xff}, 0x00ff},
		{[]byte{0, 1}, 0xfffe},
		{[]byte{0xff, 0xff, 0, 1}, 0xfffe},
	} {
		if got := sum.Of(c.b); got != c.want {
			t.Errorf("Of(% x) = %04x, want %04x", c.b, got, c.want)
		}
	}
	for _, b := range samples() {
		got := sum.Of(b)
		if got != ^uint16(rest(total(b), 16)) || got != ^sum.Fold(sum.Add(0, b)) {
			t.Fatalf("Of(% x) = %04x", b, got)
		}
	}
}

// P1.2: Pseudo, n beyond 16 bits and below nought.
func TestPseudo(t *testing.T) {
	for _, c := range []struct {
		src, dst uint32
		proto    byte
		n        int
		want     uint32
	}{
		{0, 0, 0, 0, 0},
		{0, 0, 17, 0, 17},
		{0x00010002, 0, 0, 0, 3},
		{0, 0x00040008, 0, 0, 12},
		{0x0a000001, 0x0a000002, 6, 20, 0x141d},
		{0xffff0000, 0, 0, 0, 0xffff},
		{0xffff0001, 0, 0, 0, 1},
		{0xffffffff, 0xffffffff, 255, 0xffff, 0xff},
		{0, 0, 0, 65535, 0xffff},
		{0, 0, 0, 65536, 0},
		{0, 0, 0, 65537, 1},
		{0, 0, 0, -1, 0xffff},
		{0, 0, 0, -2, 0xfffe},
		{0, 0, 0, -65535, 1},
		{0, 0, 0, -65536, 0},
		{0, 0, 1, -1, 1},
		{0, 0, 0, math.MaxInt, 0xffff},
		{0, 0, 0, math.MinInt, 0},
	} {
		if got := sum.Pseudo(c.src, c.dst, c.proto, c.n); got != c.want {
			t.Errorf("Pseudo(%x, %x, %d, %d) = %x, want %x", c.src, c.dst, c.proto, c.n, got, c.want)
		}
	}
	r := random(11)
	for range 20000 {
		src, dst, proto, n := r.Uint32(), r.Uint32(), byte(r.Uint32()), int(r.Uint64())
		whole := uint64(src>>16) + uint64(src%65536) + uint64(dst>>16) + uint64(dst%65536) + uint64(proto) + uint64(n)%65536
		if got := sum.Pseudo(src, dst, proto, n); uint64(got) != rest(whole, 16) {
			t.Fatalf("Pseudo(%x, %x, %d, %d) = %x", src, dst, proto, n, got)
		}
	}
}

// P1.2: Update, at RFC 1624's example, at the two noughts, at all edges.
func TestUpdate(t *testing.T) {
	for _, c := range []struct{ old, was, now, want uint16 }{
		{0xdd2f, 0x5555, 0x3285, 0x0000},
		{0xffff, 0xffff, 0, 0xffff},
		{0xffff, 0, 0, 0},
		{0, 0, 0, 0},
		{0, 0xffff, 0, 0},
		{0xfffe, 1, 0, 0},
		{0xffff, 0, 1, 0xfffe},
		{0, 0, 0xffff, 0},
	} {
		if got := sum.Update(c.old, c.was, c.now); got != c.want {
			t.Errorf("Update(%x, %x, %x) = %x, want %x", c.old, c.was, c.now, got, c.want)
		}
	}
	for _, old := range edges() {
		for _, was := range edges() {
			for _, now := range edges() {
				whole := uint64(0xffff-old) + uint64(0xffff-was) + uint64(now)
				if got := sum.Update(old, was, now); got != 0xffff-uint16(rest(whole, 16)) {
					t.Errorf("Update(%x, %x, %x) = %x", old, was, now, got)
				}
			}
		}
	}
}

// put lays w into b's i-th word.
func put(b []byte, i int, w uint16) { b[2*i], b[2*i+1] = byte(w>>8), byte(w) }

// P1.3: a checksum that stands in its bytes, at any whole word, makes their sum ffff; so it does behind a start that was summed too.
func TestChecksumStandsInItsBytes(t *testing.T) {
	for _, b := range samples() {
		places := min(len(b)/2, 40)
		for i := range places {
			put(b, i, 0)
			put(b, i, sum.Of(b))
			if got := sum.Fold(sum.Add(0, b)); got != 0xffff {
				t.Fatalf("% x: %04x", b, got)
			}
			pseudo := sum.Pseudo(0x0a000001, 0xcb007101, 17, len(b))
			put(b, i, 0)
			put(b, i, ^sum.Fold(sum.Add(pseudo, b)))
			if got := sum.Fold(sum.Add(pseudo, b)); got != 0xffff {
				t.Fatalf("behind a start: % x: %04x", b, got)
			}
		}
	}
}

// sameSum tells whether two checksums are alike, 0 and ffff being one.
func sameSum(a, b uint16) bool { return a%0xffff == b%0xffff }

// P1.3: an updated checksum is the changed bytes' own, but for the two noughts.
func TestUpdatedIsTheNewOnes(t *testing.T) {
	r := random(13)
	for _, b := range samples() {
		for i := range min(len(b)/2, 40) {
			for _, now := range append(edges(), uint16(r.Uint32())) {
				was, old := wordsOf(b)[i], sum.Of(b)
				put(b, i, now)
				if got, want := sum.Update(old, was, now), sum.Of(b); !sameSum(got, want) {
					t.Fatalf("Update(%x, %x, %x) = %x, want %x", old, was, now, got, want)
				}
			}
		}
	}
}

// P1.3: the two noughts: bytes that become all noughts have ffff anew and 0 updated.
func TestTwoNoughts(t *testing.T) {
	if got := sum.Of([]byte{0, 0, 0, 0}); got != 0xffff {
		t.Errorf("anew: %04x", got)
	}
	if got := sum.Update(sum.Of([]byte{0, 0, 0, 1}), 1, 0); got != 0 {
		t.Errorf("updated: %04x", got)
	}
}

// DOC.md, what holds everywhere, 3: what is handed in stays as it is, spare room too; what is answered is new memory.
func TestArgumentsStay(t *testing.T) {
	whole := []byte{1, 2, 3, 4, 5, 6, 7, 8}
	before := bytes.Clone(whole)
	b := whole[:5]
	words := sum.Words(b)
	sum.Add(9, b)
	sum.Of(b)
	words[0] = 0xdead
	if !bytes.Equal(whole, before) {
		t.Errorf("changed: % x", whole)
	}
	if again := sum.Words(b); again[0] != 0x102 {
		t.Errorf("kept: %04x", again)
	}
}
