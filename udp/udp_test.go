package udp_test

import (
	"bytes"
	"math/rand/v2"
	"testing"

	"lych/api"
	"lych/udp"
)

// Two addresses between which the known datagrams go.
const (
	here  = 0x0a000001
	there = 0xcb007105
)

func random(seed uint64) *rand.Rand { return rand.New(rand.NewPCG(seed, 4)) }

func randomBytes(r *rand.Rand, n int) []byte {
	b := make([]byte, n)
	for i := range b {
		b[i] = byte(r.Uint32())
	}
	return b
}

// randomDatagram is one with that many bytes of a body.
func randomDatagram(r *rand.Rand, body int) api.Udp {
	return api.Udp{
		Src: uint16(r.Uint32()), Dst: uint16(r.Uint32()), Sum: uint16(r.Uint32()),
		Body: randomBytes(r, body),
	}
}

// sameDatagram tells whether two datagrams are alike, no body and an empty one being one.
func sameDatagram(a, b api.Udp) bool {
	return a.Src == b.Src && a.Dst == b.Dst && a.Sum == b.Sum && bytes.Equal(a.Body, b.Body)
}

// isNought tells whether nothing at all stands in u.
func isNought(u api.Udp) bool { return sameDatagram(u, api.Udp{}) }

// summed is u's words and the pseudo ones, told without the program: a plain sum of whole numbers, brought to 1 .. ffff by its rest (it is never nought: 17 is in it).
func summed(src, dst uint32, u api.Udp) uint16 {
	n := uint64(8 + len(u.Body))
	s := uint64(src/65536) + uint64(src%65536) + uint64(dst/65536) + uint64(dst%65536) + 17 + n
	s += uint64(u.Src) + uint64(u.Dst) + n + uint64(u.Sum)
	for i, x := range u.Body {
		if i%2 == 0 {
			s += 256 * uint64(x)
		} else {
			s += uint64(x)
		}
	}
	return uint16((s-1)%0xffff + 1)
}

// checksum is what Sum must tell, told without the program.
func checksum(src, dst uint32, u api.Udp) uint16 {
	u.Sum = 0
	if c := 0xffff - summed(src, dst, u); c != 0 {
		return c
	}
	return 0xffff
}

// known is a datagram each of whose bytes is told by hand, its checksum between here and there worked out apart from the program: a swapped or shifted part shows.
func known() ([]byte, api.Udp) {
	b := []byte{
		0x11, 0x12,
		0x21, 0x22,
		0x00, 0x0b,
		0x23, 0x6b,
		0x31, 0x32, 0x33,
	}
	return b, api.Udp{Src: 0x1112, Dst: 0x2122, Sum: 0x236b, Body: []byte{0x31, 0x32, 0x33}}
}

// made is a row of n bytes that tells a length.
func made(length, n int) []byte {
	b := randomBytes(random(uint64(length*70000+n)), n)
	b[4], b[5] = byte(length>>8), byte(length)
	return b
}

// wantParse holds Parse to an error, and to nothing beside it.
func wantParse(t *testing.T, what string, b []byte, want api.Errno) {
	t.Helper()
	got, err := udp.Parse(b)
	if err != want {
		t.Errorf("%s: %v, want %v", what, err, want)
	}
	if err != api.OK && !isNought(got) {
		t.Errorf("%s: beside %v: %x", what, err, got)
	}
}

// wantBig holds Bytes to its error, and to nothing beside it.
func wantBig(t *testing.T, body []byte) {
	t.Helper()
	if got, err := udp.Bytes(api.Udp{Src: 1, Dst: 2, Sum: 3, Body: body}); err != api.ErrBig || len(got) != 0 {
		t.Errorf("a body of %d: %d bytes, %v", len(body), len(got), err)
	}
}

// P4.1: each part is read from its place.
func TestParse(t *testing.T) {
	b, want := known()
	if got, err := udp.Parse(b); err != api.OK || !sameDatagram(got, want) {
		t.Errorf("Parse(% x) = %x, %v", b, got, err)
	}
}

// P4.1: each part is written at its place, Sum as it is told, the length with them.
func TestBytes(t *testing.T) {
	want, u := known()
	if got, err := udp.Bytes(u); err != api.OK || !bytes.Equal(got, want) {
		t.Errorf("Bytes(%x) = % x, %v", u, got, err)
	}
	for _, c := range []uint16{0, 1, 0xff00, 0xffff} {
		u.Sum, want[6], want[7] = c, byte(c>>8), byte(c)
		if got, err := udp.Bytes(u); err != api.OK || !bytes.Equal(got, want) {
			t.Errorf("Sum %04x: % x, %v", c, got, err)
		}
	}
}

// P4.1: the chapter's example: 8 bytes have no body.
func TestExample(t *testing.T) {
	b := []byte{0x11, 0x12, 0x21, 0x22, 0x00, 0x08, 0x41, 0x42}
	u := api.Udp{Src: 0x1112, Dst: 0x2122, Sum: 0x4142}
	if got, err := udp.Parse(b); err != api.OK || len(got.Body) != 0 || !sameDatagram(got, u) {
		t.Errorf("Parse: %x, %v", got, err)
	}
	if got, err := udp.Bytes(u); err != api.OK || !bytes.Equal(got, b) {
		t.Errorf("Bytes: % x, %v", got, err)
	}
}

// P4.1: fewer than 8 bytes are too few, whatever they tell; 8 are enough.
func TestParseFewBytes(t *testing.T) {
	wantParse(t, "nil", nil, api.ErrShort)
	wantParse(t, "empty", []byte{}, api.ErrShort)
	for _, length := range []int{0, 7, 8, 65535} {
		b := made(length, 8)
		for n := range 8 {
			wantParse(t, "cut", b[:n:n], api.ErrShort)
		}
	}
	wantParse(t, "8 bytes", made(8, 8), api.OK)
}

// P4.1: a length below 8 is a wrong form, however many bytes there are.
func TestParseShortLength(t *testing.T) {
	for length := range 8 {
		for _, n := range []int{8, 9, 100} {
			wantParse(t, "a short length", made(length, n), api.ErrForm)
		}
	}
	wantParse(t, "8 noughts", make([]byte, 8), api.ErrForm)
	wantParse(t, "7", []byte{0, 0, 0, 0, 0, 7, 0, 0}, api.ErrForm)
	wantParse(t, "8", []byte{0, 0, 0, 0, 0, 8, 0, 0}, api.OK)
}

// P4.1: too few bytes for a header are named ahead of a wrong form; a wrong form never comes with too few bytes for its length.
func TestParseWhichErrorFirst(t *testing.T) {
	for length := range 8 {
		b := []byte{0, 0, 0, 0, 0, byte(length), 0, 0}
		wantParse(t, "7 bytes and a short length", b[:7:7], api.ErrShort)
		wantParse(t, "6 bytes and a short length", b[:6:6], api.ErrShort)
		wantParse(t, "8 bytes and a short length", b, api.ErrForm)
	}
	wantParse(t, "7 bytes and a length of 9", []byte{0, 0, 0, 0, 0, 9, 0}, api.ErrShort)
}

// P4.1: each length up to b's bytes ends the body; one more, and any more, is too few bytes.
func TestParseLengths(t *testing.T) {
	for _, n := range []int{8, 9, 10, 63, 300} {
		for length := 8; length <= n; length++ {
			b := made(length, n)
			got, err := udp.Parse(b)
			if err != api.OK || !bytes.Equal(got.Body, b[8:length]) {
				t.Fatalf("a length of %d in %d bytes: %x, %v", length, n, got, err)
			}
		}
		for _, length := range []int{n + 1, n + 2, n + 256, n + 512, 0x8000, 65535} {
			wantParse(t, "too long a length", made(length, n), api.ErrShort)
		}
	}
}

// P4.1: a length is its two bytes, all 65536 of them, the higher one first.
func TestParseEachLength(t *testing.T) {
	b := make([]byte, 300)
	for length := range 1 << 16 {
		b[4], b[5] = byte(length>>8), byte(length)
		want := api.OK
		switch {
		case length < 8:
			want = api.ErrForm
		case length > 300:
			want = api.ErrShort
		}
		if got, err := udp.Parse(b); err != want || err == api.OK && len(got.Body) != length-8 {
			t.Fatalf("a length of %d: a body of %d, %v", length, len(got.Body), err)
		}
	}
}

// P4.1: fewer bytes than its length are too few, at each number of bytes.
func TestParseCut(t *testing.T) {
	b, _ := known()
	for n := range b {
		wantParse(t, "cut", b[:n:n], api.ErrShort)
	}
	wantParse(t, "whole", b, api.OK)
}

// P4.1: the longest datagram there is.
func TestParseLongest(t *testing.T) {
	b := made(65535, 65536)
	got, err := udp.Parse(b)
	if err != api.OK || !bytes.Equal(got.Body, b[8:65535]) {
		t.Errorf("a body of %d, %v", len(got.Body), err)
	}
	wantParse(t, "65535 bytes", b[:65535], api.OK)
	wantParse(t, "65534 of 65535 bytes", b[:65534], api.ErrShort)
}

// P4.1: what stands behind the datagram is left out.
func TestParseBehind(t *testing.T) {
	r := random(5)
	b, want := known()
	for n := range 100 {
		got, err := udp.Parse(append(bytes.Clone(b), randomBytes(r, n)...))
		if err != api.OK || !sameDatagram(got, want) {
			t.Fatalf("%d bytes behind: %x, %v", n, got, err)
		}
	}
}

// P4.1: Parse holds no checksum against the bytes: it reads each one as it stands.
func TestParseAnyChecksum(t *testing.T) {
	b, want := known()
	for c := range 1 << 16 {
		b[6], b[7], want.Sum = byte(c>>8), byte(c), uint16(c)
		if got, err := udp.Parse(b); err != api.OK || !sameDatagram(got, want) {
			t.Fatalf("%04x: %x, %v", c, got, err)
		}
	}
}

// P4.1: a datagram of 65535 bytes may be written, one of 65536 is too long.
func TestBytesLongest(t *testing.T) {
	u := randomDatagram(random(7), 65527)
	b, err := udp.Bytes(u)
	if err != api.OK || len(b) != 65535 || b[4] != 0xff || b[5] != 0xff {
		t.Fatalf("%d bytes, %v", len(b), err)
	}
	if got, err := udp.Parse(b); err != api.OK || !sameDatagram(got, u) {
		t.Errorf("read: a body of %d, %v", len(got.Body), err)
	}
	for _, n := range []int{65528, 65529, 65535, 65536, 65537, 65536 + 8, 1 << 20} {
		wantBig(t, make([]byte, n))
	}
}

// P4.1: no body, nil or empty, is the same datagram.
func TestBytesNoBody(t *testing.T) {
	want := []byte{0x11, 0x12, 0x21, 0x22, 0x00, 0x08, 0x23, 0x6b}
	_, u := known()
	for _, none := range [][]byte{nil, {}} {
		u.Body = none
		if got, err := udp.Bytes(u); err != api.OK || !bytes.Equal(got, want) {
			t.Errorf("% x, %v", got, err)
		}
	}
}

// P4.1: what is written is read as it was.
func TestWrittenThenRead(t *testing.T) {
	r := random(11)
	for n := range 1600 {
		u := randomDatagram(r, n)
		b, err := udp.Bytes(u)
		if err != api.OK || len(b) != 8+n {
			t.Fatalf("a body of %d: %d bytes, %v", n, len(b), err)
		}
		if got, err := udp.Parse(b); err != api.OK || !sameDatagram(got, u) {
			t.Fatalf("%x: %x, %v", u, got, err)
		}
	}
}

// P4.1: what is read is written as it was, up to its length.
func TestReadThenWritten(t *testing.T) {
	r := random(13)
	for length := 8; length < 1600; length++ {
		b := randomBytes(r, length+r.IntN(20))
		b[4], b[5] = byte(length>>8), byte(length)
		u, err := udp.Parse(b)
		if err != api.OK {
			t.Fatalf("% x: %v", b, err)
		}
		if got, err := udp.Bytes(u); err != api.OK || !bytes.Equal(got, b[:length]) {
			t.Fatalf("% x: % x, %v", b, got, err)
		}
	}
}

// P4.2: checksums that were worked out apart from the program, of bodies of even and odd lengths.
func TestSum(t *testing.T) {
	for _, c := range []struct {
		src, dst uint32
		u        api.Udp
		want     uint16
	}{
		{0, 0, api.Udp{}, 0xffde},
		{here, there, api.Udp{Src: 0x1112, Dst: 0x2122}, 0x87a3},
		{here, there, api.Udp{Src: 0x1112, Dst: 0x2122, Body: []byte{}}, 0x87a3},
		{here, there, api.Udp{Src: 0x1112, Dst: 0x2122, Body: []byte{0x31, 0x32, 0x33}}, 0x236b},
		{here, there, api.Udp{Src: 0x1112, Dst: 0x2122, Body: []byte{0x31, 0x32, 0x33, 0x34}}, 0x2335},
	} {
		if got := udp.Sum(c.src, c.dst, c.u); got != c.want {
			t.Errorf("Sum(%x, %x, %x) = %04x, want %04x", c.src, c.dst, c.u, got, c.want)
		}
	}
}

// P4.2: Sum at each length about the words' ends, at noughts, ones and mixed bytes, and at the longest.
func TestSumOfBodies(t *testing.T) {
	r := random(17)
	lengths := []int{1000, 1001, 65526, 65527}
	for n := range 70 {
		lengths = append(lengths, n)
	}
	for _, n := range lengths {
		for _, body := range [][]byte{make([]byte, n), bytes.Repeat([]byte{0xff}, n), randomBytes(r, n)} {
			for _, src := range []uint32{0, 1, 0xffff, 0x10000, 0xffffffff, r.Uint32()} {
				u := randomDatagram(r, 0)
				u.Body = body
				dst := r.Uint32()
				if got, want := udp.Sum(src, dst, u), checksum(src, dst, u); got != want {
					t.Fatalf("Sum(%x, %x, a body of %d) = %04x, want %04x", src, dst, n, got, want)
				}
			}
		}
	}
}

// P4.2: a checksum hangs on no Sum that stood there.
func TestSumOfAnySum(t *testing.T) {
	_, u := known()
	for c := range 1 << 16 {
		u.Sum = uint16(c)
		if got := udp.Sum(here, there, u); got != 0x236b {
			t.Fatalf("Sum %04x: %04x", c, got)
		}
	}
}

// P4.2: where the checksum would be 0 it is ffff, and it is 0 nowhere; one beside it, it is 1 or fffe.
func TestSumWouldBeNought(t *testing.T) {
	for _, c := range []struct {
		u    api.Udp
		want uint16
	}{
		{api.Udp{Src: 0x98b5, Dst: 0x2122}, 0xffff},
		{api.Udp{Src: 0x98b4, Dst: 0x2122}, 0x0001},
		{api.Udp{Src: 0x98b6, Dst: 0x2122}, 0xfffe},
		{api.Udp{Src: 0x1112, Dst: 0x2122, Body: []byte{0x87, 0x9f}}, 0xffff},
		{api.Udp{Src: 0x1112, Dst: 0x2122, Body: []byte{0x87, 0x9e}}, 0x0001},
		{api.Udp{Src: 0x1112, Dst: 0x2122, Body: []byte{0x87, 0xa0}}, 0xfffe},
	} {
		if got := udp.Sum(here, there, c.u); got != c.want {
			t.Errorf("%x: %04x, want %04x", c.u, got, c.want)
		}
		c.u.Sum = c.want
		if !udp.Right(here, there, c.u) {
			t.Errorf("%x isn't right", c.u)
		}
	}
	// All words at one place: each checksum but 0 comes up.
	seen := map[uint16]int{}
	for w := range 1 << 16 {
		seen[udp.Sum(here, there, api.Udp{Src: uint16(w)})]++
	}
	if len(seen) != 0xffff || seen[0] != 0 {
		t.Errorf("%d checksums, %d times 0", len(seen), seen[0])
	}
}

// P4.2: Sum of a datagram that Bytes refuses is 0, of the longest that it doesn't refuse it isn't.
func TestSumOfTooLong(t *testing.T) {
	body := randomBytes(random(19), 1<<17)
	for _, n := range []int{65528, 65529, 65536, 65537, 1 << 17} {
		for _, c := range []uint16{0, 1, 0xffff} {
			if got := udp.Sum(here, there, api.Udp{Sum: c, Body: body[:n]}); got != 0 {
				t.Errorf("a body of %d: %04x", n, got)
			}
		}
	}
	u := api.Udp{Body: body[:65527]}
	if got := udp.Sum(here, there, u); got == 0 || got != checksum(here, there, u) {
		t.Errorf("a body of 65527: %04x", got)
	}
}

// P4.2: of all Sums of a datagram just 0 (none) and its own are right.
func TestRightOfEachSum(t *testing.T) {
	_, u := known()
	for c := range 1 << 16 {
		u.Sum = uint16(c)
		if got, want := udp.Right(here, there, u), c == 0 || c == 0x236b; got != want {
			t.Fatalf("Sum %04x: %v", c, got)
		}
	}
	// Where the own one would be 0 it is ffff: both are right, 0 as none.
	u = api.Udp{Src: 0x98b5, Dst: 0x2122}
	for c := range 1 << 16 {
		u.Sum = uint16(c)
		if got, want := udp.Right(here, there, u), c == 0 || c == 0xffff; got != want {
			t.Fatalf("would be 0, Sum %04x: %v", c, got)
		}
	}
}

// P4.2: Right is whether all words sum to ffff, whatever they are.
func TestRight(t *testing.T) {
	r := random(23)
	for range 20000 {
		u := randomDatagram(r, r.IntN(40))
		src, dst := r.Uint32(), r.Uint32()
		if r.IntN(2) == 0 {
			u.Sum = checksum(src, dst, u)
		}
		want := u.Sum == 0 || summed(src, dst, u) == 0xffff
		if got := udp.Right(src, dst, u); got != want {
			t.Fatalf("Right(%x, %x, %x) = %v", src, dst, u, got)
		}
	}
}

// wrong tells that u isn't right between these addresses.
func wrong(t *testing.T, what string, src, dst uint32, u api.Udp) {
	t.Helper()
	if udp.Right(src, dst, u) {
		t.Fatalf("%s: Right(%x, %x, %x)", what, src, dst, u)
	}
}

// P4.2: one bit elsewhere, in Sum, in an address, in a port, in the body, and no checksum is right; but without one all of these are.
func TestRightOneBit(t *testing.T) {
	r := random(29)
	for n := range 40 {
		u := randomDatagram(r, n)
		src, dst := r.Uint32(), r.Uint32()
		u.Sum = checksum(src, dst, u)
		none := u
		none.Sum = 0
		for bit := range 32 {
			wrong(t, "another source", src^1<<bit, dst, u)
			wrong(t, "another destination", src, dst^1<<bit, u)
			if !udp.Right(src^1<<bit, dst, none) || !udp.Right(src, dst^1<<bit, none) {
				t.Fatal("without a checksum")
			}
		}
		for bit := range 16 {
			a, b, c := u, u, u
			a.Src ^= 1 << bit
			b.Dst ^= 1 << bit
			c.Sum ^= 1 << bit
			wrong(t, "another source port", src, dst, a)
			wrong(t, "another destination port", src, dst, b)
			if c.Sum != 0 {
				wrong(t, "another Sum", src, dst, c)
			}
		}
		for i := range 8 * n {
			u.Body[i/8] ^= 1 << (i % 8)
			wrong(t, "another body", src, dst, u)
			u.Body[i/8] ^= 1 << (i % 8)
		}
	}
}

// P4.2: the length is among the words, twice: a nought more or less behind the body shows.
func TestRightAnotherLength(t *testing.T) {
	u := api.Udp{Src: 0x1112, Dst: 0x2122, Body: []byte{0x31, 0x32, 0x33, 0x00}}
	u.Sum = checksum(here, there, u)
	longer, shorter := u, u
	longer.Body = append(bytes.Clone(u.Body), 0)
	shorter.Body = u.Body[:3]
	wrong(t, "longer", here, there, longer)
	wrong(t, "shorter", here, there, shorter)
}

// P4.2: a datagram that Bytes refuses has no words: none is right but one without a checksum, even where its length's lowest 16 bits would do.
func TestRightOfTooLong(t *testing.T) {
	for _, n := range []int{65528, 65529, 65536, 1 << 17} {
		u := api.Udp{Body: make([]byte, n)}
		if !udp.Right(here, there, u) {
			t.Errorf("a body of %d without a checksum", n)
		}
		low := 2 * uint16(8+n)
		for _, c := range []uint16{1, 5, 0xffee - low, 0xffff} {
			u.Sum = c
			wrong(t, "too long", 0, 0, u)
		}
	}
}

// P4.3: a datagram with its Sum is Right, at each length, between any addresses, too long ones too.
func TestWithItsSumIsRight(t *testing.T) {
	r := random(31)
	lengths := []int{1599, 1600, 65526, 65527, 65528, 65529, 1 << 17}
	for n := range 300 {
		lengths = append(lengths, n)
	}
	for _, n := range lengths {
		for _, src := range []uint32{0, 0xffffffff, 0xffff, 0xffff0000, r.Uint32()} {
			u := randomDatagram(r, n)
			dst := r.Uint32()
			u.Sum = udp.Sum(src, dst, u)
			if !udp.Right(src, dst, u) {
				t.Fatalf("a body of %d, %x, %x, Sum %04x", n, src, dst, u.Sum)
			}
		}
	}
}

// P4.3: it is Right still when it has been written and read, and has a checksum then.
func TestWithItsSumIsRightWhenRead(t *testing.T) {
	r := random(37)
	for range 5000 {
		u := randomDatagram(r, r.IntN(60))
		src, dst := r.Uint32(), r.Uint32()
		u.Sum = udp.Sum(src, dst, u)
		b, err := udp.Bytes(u)
		if err != api.OK {
			t.Fatalf("%x: %v", u, err)
		}
		got, err := udp.Parse(append(b, randomBytes(r, r.IntN(5))...))
		if err != api.OK || got.Sum == 0 || !udp.Right(src, dst, got) {
			t.Fatalf("%x: %x, %v", u, got, err)
		}
	}
}

// P4.3: at every port, so at every sum that the other words may have.
func TestWithItsSumIsRightAtEachPort(t *testing.T) {
	for port := range 1 << 16 {
		u := api.Udp{Src: uint16(port), Dst: 53, Body: []byte{7}}
		u.Sum = udp.Sum(here, there, u)
		if u.Sum == 0 || !udp.Right(here, there, u) {
			t.Fatalf("port %d: Sum %04x", port, u.Sum)
		}
	}
}

// DOC.md, what holds everywhere, 1: no bytes make a call panic.
func TestAnyBytes(t *testing.T) {
	r := random(41)
	for range 200000 {
		b := randomBytes(r, r.IntN(30))
		if len(b) > 5 && r.IntN(4) != 0 {
			b[4], b[5] = 0, b[5]&0x1f
		}
		got, err := udp.Parse(b)
		if err != api.OK && !isNought(got) {
			t.Fatalf("% x: beside %v: %x", b, err, got)
		}
		udp.Right(r.Uint32(), r.Uint32(), got)
	}
}

// DOC.md, what holds everywhere, 3: spare room makes no short row a datagram, and is neither written nor summed.
func TestSpareRoomSaysNothing(t *testing.T) {
	b, u := known()
	for n := range b {
		wantParse(t, "the rest in the room behind", b[:n], api.ErrShort)
	}
	row := append(bytes.Clone(u.Body), bytes.Repeat([]byte{0xaa}, 70000)...)
	u.Body = row[:3]
	if got, err := udp.Bytes(u); err != api.OK || !bytes.Equal(got, b) {
		t.Errorf("%d bytes, %v", len(got), err)
	}
	if got := udp.Sum(here, there, u); got != 0x236b || !udp.Right(here, there, u) {
		t.Errorf("Sum: %04x", got)
	}
}

// DOC.md, what holds everywhere, 3: Parse leaves its bytes, and the room behind them, as they were; its answer is memory of its own.
func TestParseSharesNothing(t *testing.T) {
	first, want := known()
	row := append(bytes.Clone(first), 0x41, 0x42, 0x43)
	before := bytes.Clone(row)
	for _, b := range [][]byte{row, row[:len(first)]} {
		u, _ := udp.Parse(b)
		if !bytes.Equal(row, before) {
			t.Fatalf("changed by reading: % x", row)
		}
		_ = append(u.Body, 0xee)
		clear(u.Body[:cap(u.Body)])
		if !bytes.Equal(row, before) {
			t.Fatalf("changed by its answer: % x", row)
		}
	}
	kept, _ := udp.Parse(row)
	clear(row)
	if !sameDatagram(kept, want) {
		t.Errorf("an answer is changed by its bytes: %x", kept)
	}
}

// DOC.md, what holds everywhere, 3: Bytes leaves the datagram, and the room behind its body, as they were; its answer is memory of its own.
func TestBytesSharesNothing(t *testing.T) {
	want, u := known()
	row := append(bytes.Clone(u.Body), 0x41, 0x42, 0x43)
	before := bytes.Clone(row)
	u.Body = row[:len(u.Body)]
	b, _ := udp.Bytes(u)
	if !bytes.Equal(row, before) {
		t.Fatalf("changed by writing: % x", row)
	}
	_ = append(b, 0xee)
	clear(b[:cap(b)])
	if !bytes.Equal(row, before) {
		t.Errorf("changed by its answer: % x", row)
	}
	kept, _ := udp.Bytes(u)
	clear(row)
	if !bytes.Equal(kept, want) {
		t.Errorf("an answer is changed by its datagram: % x", kept)
	}
}

// DOC.md, what holds everywhere, 3: Sum and Right leave the datagram, and the room behind its body, as they were.
func TestSumAndRightChangeNothing(t *testing.T) {
	for n := range 6 {
		row := []byte{0x31, 0x32, 0x33, 0x34, 0x35, 0x36, 0x37}
		before := bytes.Clone(row)
		u := api.Udp{Src: 1, Dst: 2, Sum: 3, Body: row[:n]}
		udp.Sum(here, there, u)
		udp.Right(here, there, u)
		if !bytes.Equal(row, before) || u.Sum != 3 || len(u.Body) != n {
			t.Errorf("a body of %d: % x, %x", n, row, u)
		}
	}
}

// DOC.md, what holds everywhere, 3: two answers of the same share nothing.
func TestAnswersShareNothing(t *testing.T) {
	b, want := known()
	one, _ := udp.Parse(b)
	two, _ := udp.Parse(b)
	clear(one.Body[:cap(one.Body)])
	if !sameDatagram(two, want) {
		t.Errorf("Parse: %x", two)
	}
	first, _ := udp.Bytes(want)
	second, _ := udp.Bytes(want)
	clear(first[:cap(first)])
	if !bytes.Equal(second, b) {
		t.Errorf("Bytes: % x", second)
	}
}

// DOC.md, what holds everywhere, 8: what is answered hangs on nothing that was asked ahead of it.
func TestNothingIsKept(t *testing.T) {
	b, want := known()
	for _, ahead := range [][]byte{nil, make([]byte, 8), made(9, 8), made(100, 120)} {
		u, _ := udp.Parse(ahead)
		udp.Bytes(u)
		udp.Sum(1, 2, u)
		udp.Right(1, 2, u)
		if got, err := udp.Parse(b); err != api.OK || !sameDatagram(got, want) {
			t.Errorf("behind % x: %x, %v", ahead, got, err)
		}
		if got := udp.Sum(here, there, want); got != 0x236b || !udp.Right(here, there, want) {
			t.Errorf("behind % x: Sum %04x", ahead, got)
		}
	}
}
