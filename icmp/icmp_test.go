package icmp_test

import (
	"bytes"
	"math/rand/v2"
	"testing"

	"lych/api"
	"lych/icmp"
)

// knownSum is the known message's checksum, worked out apart from the program.
const knownSum = 0x45e4

// most is how many bytes the longest message has.
const most = 65515

func random(seed uint64) *rand.Rand { return rand.New(rand.NewPCG(seed, 6)) }

func randomBytes(r *rand.Rand, n int) []byte {
	b := make([]byte, n)
	for i := range b {
		b[i] = byte(r.Uint32())
	}
	return b
}

// randomMessage is one with that many bytes of a body.
func randomMessage(r *rand.Rand, body int) api.Icmp {
	return api.Icmp{
		Type: byte(r.Uint32()), Code: byte(r.Uint32()),
		Sum: uint16(r.Uint32()), Rest: r.Uint32(),
		Body: randomBytes(r, body),
	}
}

// sameMessage tells whether two messages are alike, no body and an empty one being one.
func sameMessage(a, b api.Icmp) bool {
	return a.Type == b.Type && a.Code == b.Code && a.Sum == b.Sum && a.Rest == b.Rest && bytes.Equal(a.Body, b.Body)
}

// isNought tells whether nothing at all stands in m.
func isNought(m api.Icmp) bool { return sameMessage(m, api.Icmp{}) }

// summed is m's words, told without the program: a plain sum of whole numbers, brought to 1 .. ffff by its rest, but 0 where all words are noughts.
func summed(m api.Icmp) uint16 {
	t := 256*uint64(m.Type) + uint64(m.Code) + uint64(m.Sum) + uint64(m.Rest/65536) + uint64(m.Rest%65536)
	for i, x := range m.Body {
		if i%2 == 0 {
			t += 256 * uint64(x)
		} else {
			t += uint64(x)
		}
	}
	if t == 0 {
		return 0
	}
	return uint16((t-1)%0xffff + 1)
}

// checksum is what Sum must tell, told without the program.
func checksum(m api.Icmp) uint16 {
	m.Sum = 0
	return 0xffff - summed(m)
}

// plain is the known message without a body, and without a Sum.
func plain() api.Icmp {
	return api.Icmp{Type: 0x11, Code: 0x12, Rest: 0x31323334}
}

// known is a message each of whose bytes is told by hand: a swapped or shifted part shows.
func known() ([]byte, api.Icmp) {
	b := []byte{
		0x11, 0x12, 0x45, 0xe4,
		0x31, 0x32, 0x33, 0x34,
		0xa1, 0xa2, 0xa3,
	}
	m := plain()
	m.Sum = knownSum
	m.Body = []byte{0xa1, 0xa2, 0xa3}
	return b, m
}

// wantShort holds Parse to ErrShort, and to nothing beside it.
func wantShort(t *testing.T, what string, b []byte) {
	t.Helper()
	if got, err := icmp.Parse(b); err != api.ErrShort || !isNought(got) {
		t.Errorf("%s, %d bytes: %x, %v", what, len(b), got, err)
	}
}

// P6.1: each part is read from its place.
func TestParse(t *testing.T) {
	b, want := known()
	if got, err := icmp.Parse(b); err != api.OK || !sameMessage(got, want) {
		t.Errorf("Parse(% x) = %x, %v", b, got, err)
	}
	want.Body = nil
	if got, err := icmp.Parse(b[:8:8]); err != api.OK || !sameMessage(got, want) {
		t.Errorf("without a body: %x, %v", got, err)
	}
}

// P6.1: each part is written at its place, Sum as it is told.
func TestBytes(t *testing.T) {
	want, m := known()
	if got, err := icmp.Bytes(m); err != api.OK || !bytes.Equal(got, want) {
		t.Errorf("Bytes(%x) = % x, %v", m, got, err)
	}
	for _, c := range []uint16{0, 1, 0xff00, 0xffff} {
		m.Sum, want[2], want[3] = c, byte(c>>8), byte(c)
		if got, err := icmp.Bytes(m); err != api.OK || !bytes.Equal(got, want) {
			t.Errorf("Sum %04x: % x, %v", c, got, err)
		}
	}
}

// P6.1: one bit of one byte is one bit of one part, read and written.
func TestEachBit(t *testing.T) {
	for i := range 8 * 10 {
		b := make([]byte, 10)
		b[i/8] = 0x80 >> (i % 8)
		want := api.Icmp{Body: make([]byte, 2)}
		switch {
		case i < 8:
			want.Type = 1 << (7 - i)
		case i < 16:
			want.Code = 1 << (15 - i)
		case i < 32:
			want.Sum = 1 << (31 - i)
		case i < 64:
			want.Rest = 1 << (63 - i)
		default:
			want.Body[i/8-8] = 0x80 >> (i % 8)
		}
		if got, err := icmp.Parse(b); err != api.OK || !sameMessage(got, want) {
			t.Errorf("bit %d: %x, %v", i, got, err)
		}
		if got, err := icmp.Bytes(want); err != api.OK || !bytes.Equal(got, b) {
			t.Errorf("bit %d: % x, %v", i, got, err)
		}
	}
}

// P6.1, P6.2: the chapter's example.
func TestExample(t *testing.T) {
	b := []byte{0x08, 0x00, 0xf7, 0xfd, 0x00, 0x01, 0x00, 0x01}
	m, err := icmp.Parse(b)
	if err != api.OK || !sameMessage(m, api.Icmp{Type: 8, Sum: 0xf7fd, Rest: 0x00010001}) {
		t.Fatalf("Parse: %x, %v", m, err)
	}
	if !icmp.Right(m) || !icmp.Echo(m) || icmp.Error(m) || m.Rest>>16 != 1 || icmp.Sum(m) != 0xf7fd {
		t.Errorf("Right %v, Echo %v, Error %v, Sum %04x", icmp.Right(m), icmp.Echo(m), icmp.Error(m), icmp.Sum(m))
	}
	if got, err := icmp.Bytes(m); err != api.OK || !bytes.Equal(got, b) {
		t.Errorf("Bytes: % x, %v", got, err)
	}
}

// P6.1: fewer than 8 bytes are too few, whatever they are; 8 are enough.
func TestParseFewBytes(t *testing.T) {
	wantShort(t, "nil", nil)
	wantShort(t, "empty", []byte{})
	r := random(1)
	for _, b := range [][]byte{make([]byte, 8), bytes.Repeat([]byte{0xff}, 8), randomBytes(r, 8)} {
		for n := range 8 {
			wantShort(t, "cut", b[:n:n])
		}
		got, err := icmp.Parse(b)
		if err != api.OK || len(got.Body) != 0 || got.Type != b[0] || byte(got.Rest) != b[7] {
			t.Errorf("8 bytes: %x, %v", got, err)
		}
	}
	if got, err := icmp.Parse([]byte{1, 2, 3, 4, 5, 6, 7, 8, 9}); err != api.OK || !bytes.Equal(got.Body, []byte{9}) {
		t.Errorf("9 bytes: %x, %v", got, err)
	}
}

// P6.1: Parse asks neither for a right checksum nor for a type that has a name.
func TestParseAnyHeader(t *testing.T) {
	b, want := known()
	for w := range 1 << 16 {
		b[0], b[1], want.Type, want.Code = byte(w>>8), byte(w), byte(w>>8), byte(w)
		b[2], b[3], want.Sum = byte(w>>8), byte(w), uint16(w)
		if got, err := icmp.Parse(b); err != api.OK || !sameMessage(got, want) {
			t.Fatalf("%04x: %x, %v", w, got, err)
		}
	}
}

// P6.1: Parse names no length that is too long: all that stands behind 8 bytes is the body.
func TestParseLong(t *testing.T) {
	r := random(3)
	for _, n := range []int{most, most + 1, 65535, 65536, 1 << 17} {
		b := randomBytes(r, n)
		if got, err := icmp.Parse(b); err != api.OK || !bytes.Equal(got.Body, b[8:]) {
			t.Errorf("%d bytes: a body of %d, %v", n, len(got.Body), err)
		}
	}
}

// P6.1: a message of 65515 bytes may be written, one of 65516 is too long.
func TestBytesLongest(t *testing.T) {
	r := random(5)
	for _, n := range []int{most - 2, most - 1, most} {
		m := randomMessage(r, n-8)
		b, err := icmp.Bytes(m)
		if err != api.OK || len(b) != n {
			t.Fatalf("%d bytes: %d, %v", n, len(b), err)
		}
		if got, err := icmp.Parse(b); err != api.OK || !sameMessage(got, m) {
			t.Errorf("%d bytes, read: a body of %d, %v", n, len(got.Body), err)
		}
	}
	for _, n := range []int{most + 1, most + 2, most + 8, most + 9, 65535, 65536, 65544, 1 << 17} {
		if got, err := icmp.Bytes(randomMessage(r, n-8)); err != api.ErrBig || len(got) != 0 {
			t.Errorf("%d bytes: %d, %v", n, len(got), err)
		}
	}
}

// P6.1: no body, nil or empty, is the same message.
func TestNoBody(t *testing.T) {
	want := []byte{0x11, 0x12, 0x8a, 0x87, 0x31, 0x32, 0x33, 0x34}
	for _, body := range [][]byte{nil, {}} {
		m := plain()
		m.Sum, m.Body = 0x8a87, body
		if got, err := icmp.Bytes(m); err != api.OK || !bytes.Equal(got, want) {
			t.Errorf("% x, %v", got, err)
		}
		if icmp.Sum(m) != 0x8a87 || !icmp.Right(m) {
			t.Errorf("Sum: %04x", icmp.Sum(m))
		}
	}
	if got, err := icmp.Bytes(api.Icmp{}); err != api.OK || !bytes.Equal(got, make([]byte, 8)) {
		t.Errorf("noughts: % x, %v", got, err)
	}
}

// P6.1: what is written is read as it was.
func TestWrittenThenRead(t *testing.T) {
	r := random(7)
	for n := range 2000 {
		m := randomMessage(r, n)
		b, err := icmp.Bytes(m)
		if err != api.OK || len(b) != 8+n {
			t.Fatalf("%x: %d bytes, %v", m, len(b), err)
		}
		if got, err := icmp.Parse(b); err != api.OK || !sameMessage(got, m) {
			t.Fatalf("%x: %x, %v", m, got, err)
		}
	}
}

// P6.1: what is read is written as it was.
func TestReadThenWritten(t *testing.T) {
	r := random(11)
	for range 20000 {
		b := randomBytes(r, 8+r.IntN(60))
		m, err := icmp.Parse(b)
		if err != api.OK {
			t.Fatalf("% x: %v", b, err)
		}
		if got, err := icmp.Bytes(m); err != api.OK || !bytes.Equal(got, b) {
			t.Fatalf("% x: % x, %v", b, got, err)
		}
	}
}

// P6.1: checksums that were worked out apart from the program, of bodies of even and odd lengths.
func TestSum(t *testing.T) {
	for _, c := range []struct {
		body []byte
		want uint16
	}{
		{nil, 0x8a87},
		{[]byte{0xa1}, 0xe986},
		{[]byte{0xa1, 0xa2}, 0xe8e4},
		{[]byte{0xa1, 0xa2, 0xa3}, knownSum},
		{[]byte{0xa1, 0xa2, 0xa3, 0xa4}, 0x4540},
	} {
		m := plain()
		m.Body = c.body
		if got := icmp.Sum(m); got != c.want {
			t.Errorf("%x: %04x, want %04x", m, got, c.want)
		}
	}
	if got := icmp.Sum(api.Icmp{}); got != 0xffff {
		t.Errorf("noughts: %04x", got)
	}
}

// P6.1: Sum at each length about the words' ends, at noughts, ones and mixed bytes, and at the longest.
func TestSumOfBodies(t *testing.T) {
	r := random(13)
	lengths := []int{1000, 1001, most - 9, most - 8}
	for n := range 70 {
		lengths = append(lengths, n)
	}
	for _, n := range lengths {
		for _, body := range [][]byte{make([]byte, n), bytes.Repeat([]byte{0xff}, n), randomBytes(r, n)} {
			for _, rest := range []uint32{0, 1, 0xffff, 0x10000, 0xffffffff, r.Uint32()} {
				for _, m := range []api.Icmp{{Rest: rest, Body: body}, {Type: 0xff, Code: 0xff, Rest: rest, Body: body}, {Type: 8, Sum: 77, Rest: rest, Body: body}} {
					if got, want := icmp.Sum(m), checksum(m); got != want {
						t.Fatalf("Sum(%d, %d, %x, a body of %d) = %04x, want %04x", m.Type, m.Code, rest, n, got, want)
					}
				}
			}
		}
	}
}

// P6.1: a checksum hangs on no Sum that stood there.
func TestSumOfAnySum(t *testing.T) {
	_, m := known()
	for c := range 1 << 16 {
		m.Sum = uint16(c)
		if got := icmp.Sum(m); got != knownSum {
			t.Fatalf("Sum %04x: %04x", c, got)
		}
	}
}

// P6.1: where the other words sum to ffff, the checksum is 0 and no other nought; one beside it, it is 1 or fffe.
func TestSumNought(t *testing.T) {
	for _, c := range []struct {
		rest uint32
		body []byte
		want uint16
	}{
		{0x3132bdbb, nil, 0x0000},
		{0x3132bdba, nil, 0x0001},
		{0x3132bdbc, nil, 0xfffe},
		{0x31323334, []byte{0x8a, 0x87}, 0x0000},
		{0x31323334, []byte{0x8a, 0x86}, 0x0001},
		{0x31323334, []byte{0x8a, 0x88}, 0xfffe},
		{0x313233bb, []byte{0x8a}, 0x0000},
	} {
		m := plain()
		m.Rest, m.Body = c.rest, c.body
		if got := icmp.Sum(m); got != c.want {
			t.Errorf("%x: %04x, want %04x", m, got, c.want)
		}
		m.Sum = c.want
		if !icmp.Right(m) {
			t.Errorf("%x isn't right", m)
		}
	}
	// All words at one place beside others: each checksum but ffff comes up.
	seen := map[uint16]int{}
	for w := range uint32(1 << 16) {
		seen[icmp.Sum(api.Icmp{Type: 8, Rest: w})]++
	}
	if len(seen) != 0xffff || seen[0] != 1 || seen[0xffff] != 0 {
		t.Errorf("%d checksums, %d times 0, %d times ffff", len(seen), seen[0], seen[0xffff])
	}
}

// refused are messages that Bytes refuses, of even and odd lengths.
func refused() []api.Icmp {
	r := random(17)
	var list []api.Icmp
	for _, n := range []int{most + 1, most + 2, 65535, 65536, 65544, 1 << 17} {
		list = append(list, randomMessage(r, n-8))
	}
	return append(list, api.Icmp{Type: 8, Body: make([]byte, 65508)})
}

// P6.1: Sum of a message that Bytes refuses is 0, of the longest that it doesn't refuse it isn't.
func TestSumOfRefused(t *testing.T) {
	for _, m := range refused() {
		for _, c := range []uint16{0, 1, 0xffff, m.Sum} {
			m.Sum = c
			if got := icmp.Sum(m); got != 0 {
				t.Errorf("a body of %d: %04x", len(m.Body), got)
			}
		}
	}
	m := randomMessage(random(19), most-8)
	if got := icmp.Sum(m); got == 0 || got != checksum(m) {
		t.Errorf("the longest: %04x", got)
	}
}

// P6.1: a message that Bytes refuses has no words that could sum to ffff, whatever its Sum.
func TestRightOfRefused(t *testing.T) {
	for _, m := range refused() {
		for _, c := range []uint16{0, 1, checksum(m), 0xffff} {
			m.Sum = c
			if icmp.Right(m) {
				t.Errorf("a body of %d, Sum %04x", len(m.Body), c)
			}
		}
	}
}

// P6.1: of all Sums of a message just its own is right; where the other words sum to ffff by themselves, both noughts are.
func TestRightOfEachSum(t *testing.T) {
	_, m := known()
	nought := plain()
	nought.Rest = 0x3132bdbb
	odd := plain()
	odd.Rest, odd.Body = 0x313233bb, []byte{0x8a}
	for c := range 1 << 16 {
		m.Sum, nought.Sum, odd.Sum = uint16(c), uint16(c), uint16(c)
		if got, want := icmp.Right(m), c == knownSum; got != want {
			t.Fatalf("Sum %04x: %v", c, got)
		}
		both := c == 0 || c == 0xffff
		if icmp.Right(nought) != both || icmp.Right(odd) != both {
			t.Fatalf("its own is 0, Sum %04x: %v, %v", c, icmp.Right(nought), icmp.Right(odd))
		}
	}
}

// P6.1: where all words are noughts, they sum to 0: just ffff makes that right.
func TestRightOfNoughts(t *testing.T) {
	for n := range 9 {
		for c := range 1 << 16 {
			m := api.Icmp{Sum: uint16(c), Body: make([]byte, n)}
			if got, want := icmp.Right(m), c == 0xffff; got != want {
				t.Fatalf("a body of %d, Sum %04x: %v", n, c, got)
			}
		}
	}
}

// P6.1: Right is whether all words sum to ffff, whatever they are.
func TestRight(t *testing.T) {
	r := random(23)
	for range 50000 {
		m := randomMessage(r, r.IntN(40))
		switch r.IntN(4) {
		case 0:
			m.Sum = checksum(m)
		case 1:
			m.Sum = 0
		case 2:
			m.Sum = 0xffff
		}
		if got, want := icmp.Right(m), summed(m) == 0xffff; got != want {
			t.Fatalf("Right(%x) = %v", m, got)
		}
	}
}

// P6.1: one bit elsewhere, in any part, Sum among them, and a right message isn't right.
func TestRightOneBit(t *testing.T) {
	r := random(29)
	for n := range 100 {
		m := randomMessage(r, n)
		m.Sum = checksum(m)
		b, err := icmp.Bytes(m)
		if err != api.OK || !icmp.Right(m) {
			t.Fatalf("%x isn't right, %v", m, err)
		}
		for i := range 8 * len(b) {
			b[i/8] ^= 1 << (i % 8)
			if off, err := icmp.Parse(b); err != api.OK || icmp.Right(off) {
				t.Fatalf("bit %d of % x: %v", i, b, err)
			}
			b[i/8] ^= 1 << (i % 8)
		}
	}
}

// P6.1: neither addresses nor a length are among the words: a nought more changes no Sum.
func TestSumHasNoPseudoWords(t *testing.T) {
	_, m := known()
	for range 20 {
		m.Body = append(m.Body, 0)
		if got := icmp.Sum(m); got != knownSum || !icmp.Right(m) {
			t.Fatalf("a body of %d: %04x", len(m.Body), got)
		}
	}
}

// P6.2: of the 256 types and 256 codes an Echo is one of type 8 or 0, with code 0, whatever else stands in it.
func TestEcho(t *testing.T) {
	r := random(31)
	for kind := range 256 {
		for code := range 256 {
			m := randomMessage(r, r.IntN(4))
			m.Type, m.Code = byte(kind), byte(code)
			if got, want := icmp.Echo(m), (kind == 8 || kind == 0) && code == 0; got != want {
				t.Errorf("type %d, code %d: %v", kind, code, got)
			}
		}
	}
}

// P6.2: an Error is one of type 3, 11 or 12, with any code, whatever else stands in it.
func TestError(t *testing.T) {
	r := random(37)
	for kind := range 256 {
		for code := range 256 {
			m := randomMessage(r, r.IntN(4))
			m.Type, m.Code = byte(kind), byte(code)
			if got, want := icmp.Error(m), kind == 3 || kind == 11 || kind == 12; got != want {
				t.Errorf("type %d, code %d: %v", kind, code, got)
			}
		}
	}
}

// P6.2: Echo and Error ask neither for a Sum that is right nor for bytes that may be written.
func TestKindsOfAnyMessage(t *testing.T) {
	for _, m := range refused() {
		m.Type, m.Code = 8, 0
		if !icmp.Echo(m) || icmp.Error(m) {
			t.Errorf("a body of %d: no Echo", len(m.Body))
		}
		m.Type = 11
		if icmp.Echo(m) || !icmp.Error(m) {
			t.Errorf("a body of %d: no Error", len(m.Body))
		}
	}
	for c := range 1 << 16 {
		if !icmp.Echo(api.Icmp{Type: 8, Sum: uint16(c)}) || !icmp.Error(api.Icmp{Type: 3, Sum: uint16(c)}) {
			t.Fatalf("Sum %04x", c)
		}
	}
}

// P6.2: an Echo's id is Rest's upper half: bytes 4 and 5, read and written.
func TestEchoId(t *testing.T) {
	for id := range 1 << 16 {
		b := []byte{8, 0, 0, 0, byte(id >> 8), byte(id), 0x71, 0x72}
		m, err := icmp.Parse(b)
		if err != api.OK || !icmp.Echo(m) || int(m.Rest>>16) != id || m.Rest&0xffff != 0x7172 {
			t.Fatalf("id %d: %x, %v", id, m, err)
		}
		if got, err := icmp.Bytes(m); err != api.OK || !bytes.Equal(got, b) {
			t.Fatalf("id %d: % x, %v", id, got, err)
		}
	}
}

// P6.3: a message with its Sum is Right, at each length.
func TestWithItsSumIsRight(t *testing.T) {
	r := random(41)
	lengths := []int{1599, 1600, most - 9, most - 8}
	for n := range 600 {
		lengths = append(lengths, n)
	}
	for _, n := range lengths {
		for _, rest := range []uint32{0, 0xffffffff, 0xffff, 0xffff0000, r.Uint32()} {
			m := randomMessage(r, n)
			m.Rest = rest
			m.Sum = icmp.Sum(m)
			if !icmp.Right(m) {
				t.Fatalf("a body of %d, Rest %x, Sum %04x", n, rest, m.Sum)
			}
		}
	}
	noughts := api.Icmp{}
	noughts.Sum = icmp.Sum(noughts)
	if !icmp.Right(noughts) {
		t.Errorf("noughts: Sum %04x", noughts.Sum)
	}
}

// P6.3: it is Right still when it has been written and read.
func TestWithItsSumIsRightWhenRead(t *testing.T) {
	r := random(43)
	for range 5000 {
		m := randomMessage(r, r.IntN(60))
		m.Sum = icmp.Sum(m)
		b, err := icmp.Bytes(m)
		if err != api.OK {
			t.Fatalf("%x: %v", m, err)
		}
		if got, err := icmp.Parse(b); err != api.OK || !icmp.Right(got) {
			t.Fatalf("%x: %x, %v", m, got, err)
		}
	}
}

// P6.3: at every id, so at every sum that the other words may have, 0 and ffff among them.
func TestWithItsSumIsRightAtEachId(t *testing.T) {
	for id := range uint32(1 << 16) {
		for _, m := range []api.Icmp{{Rest: id << 16}, {Type: 8, Rest: id<<16 | 1, Body: []byte{7}}} {
			m.Sum = icmp.Sum(m)
			if !icmp.Right(m) {
				t.Fatalf("type %d, id %d: Sum %04x", m.Type, id, m.Sum)
			}
		}
	}
}

// DOC.md, what holds everywhere, 1: no bytes make a call panic.
func TestAnyBytes(t *testing.T) {
	r := random(47)
	for range 100000 {
		b := randomBytes(r, r.IntN(30))
		got, err := icmp.Parse(b)
		if (err != api.OK) != (len(b) < 8) || err != api.OK && !isNought(got) {
			t.Fatalf("% x: beside %v: %x", b, err, got)
		}
		icmp.Right(got)
		icmp.Echo(got)
		icmp.Error(got)
	}
}

// DOC.md, what holds everywhere, 3: spare room makes no short row a message, and is neither written nor summed.
func TestSpareRoomSaysNothing(t *testing.T) {
	b, m := known()
	for n := range 8 {
		wantShort(t, "the rest in the room behind", b[:n])
	}
	if got, err := icmp.Parse(b[:9]); err != api.OK || !bytes.Equal(got.Body, []byte{0xa1}) {
		t.Errorf("%x, %v", got, err)
	}
	m.Body = append(bytes.Clone(m.Body), bytes.Repeat([]byte{0xaa}, 70000)...)[:3]
	if got, err := icmp.Bytes(m); err != api.OK || !bytes.Equal(got, b) {
		t.Errorf("%d bytes, %v", len(got), err)
	}
	if got := icmp.Sum(m); got != knownSum || !icmp.Right(m) {
		t.Errorf("Sum: %04x", got)
	}
}

// spoil writes over a list, and over all its room.
func spoil(list []byte) {
	_ = append(list, 0xee)
	list = list[:cap(list)]
	for i := range list {
		list[i] ^= 0xff
	}
}

// DOC.md, what holds everywhere, 3: Parse leaves its bytes, and the room behind them, as they were; its answer is memory of its own.
func TestParseSharesNothing(t *testing.T) {
	first, want := known()
	row := append(bytes.Clone(first), 0x41, 0x42, 0x43)
	before := bytes.Clone(row)
	for n := range len(row) + 1 {
		m, _ := icmp.Parse(row[:n])
		if !bytes.Equal(row, before) {
			t.Fatalf("changed by reading: % x", row)
		}
		spoil(m.Body)
		if !bytes.Equal(row, before) {
			t.Fatalf("changed by its answer: % x", row)
		}
	}
	kept, _ := icmp.Parse(row[:len(first)])
	clear(row)
	if !sameMessage(kept, want) {
		t.Errorf("an answer is changed by its bytes: %x", kept)
	}
}

// DOC.md, what holds everywhere, 3: Bytes leaves the message, and the room behind its body, as they were; its answer is memory of its own.
func TestBytesSharesNothing(t *testing.T) {
	want, m := known()
	row := append(bytes.Clone(m.Body), 0x41, 0x42, 0x43)
	before := bytes.Clone(row)
	m.Body = row[:3]
	b, _ := icmp.Bytes(m)
	if !bytes.Equal(row, before) {
		t.Fatalf("changed by writing: % x", row)
	}
	spoil(b)
	if !bytes.Equal(row, before) {
		t.Errorf("changed by its answer: % x", row)
	}
	kept, _ := icmp.Bytes(m)
	clear(row)
	if !bytes.Equal(kept, want) {
		t.Errorf("an answer is changed by its message: % x", kept)
	}
}

// DOC.md, what holds everywhere, 3: the calls that only tell leave the message, and the room behind its body, as they were.
func TestTellingChangesNothing(t *testing.T) {
	for n := range 7 {
		for _, kind := range []byte{0, 3, 8, 11, 12, 13} {
			body := []byte{0x31, 0x32, 0x33, 0x34, 0x35, 0x36, 0x37}
			before := bytes.Clone(body)
			m := api.Icmp{Type: kind, Sum: 3, Rest: 0x51525354, Body: body[:n]}
			icmp.Sum(m)
			icmp.Right(m)
			icmp.Echo(m)
			icmp.Error(m)
			if !bytes.Equal(body, before) || m.Sum != 3 {
				t.Errorf("type %d, a body of %d: % x, %x", kind, n, body, m)
			}
		}
	}
}

// DOC.md, what holds everywhere, 3: two answers of the same share nothing.
func TestAnswersShareNothing(t *testing.T) {
	b, want := known()
	one, _ := icmp.Parse(b)
	two, _ := icmp.Parse(b)
	spoil(one.Body)
	if !sameMessage(two, want) {
		t.Errorf("Parse: %x", two)
	}
	first, _ := icmp.Bytes(want)
	second, _ := icmp.Bytes(want)
	spoil(first)
	if !bytes.Equal(second, b) {
		t.Errorf("Bytes: % x", second)
	}
}

// DOC.md, what holds everywhere, 8: what is answered hangs on nothing that was asked ahead of it.
func TestNothingIsKept(t *testing.T) {
	b, want := known()
	for _, ahead := range [][]byte{nil, make([]byte, 7), make([]byte, 8), bytes.Repeat([]byte{0xff}, 90)} {
		m, _ := icmp.Parse(ahead)
		icmp.Bytes(m)
		icmp.Sum(m)
		icmp.Right(m)
		icmp.Echo(m)
		icmp.Error(m)
		if got, err := icmp.Parse(b); err != api.OK || !sameMessage(got, want) {
			t.Errorf("behind % x: %x, %v", ahead, got, err)
		}
		if got := icmp.Sum(want); got != knownSum || !icmp.Right(want) || icmp.Echo(want) || icmp.Error(want) {
			t.Errorf("behind % x: Sum %04x", ahead, got)
		}
	}
}
