package tcp_test

import (
	"bytes"
	"math/rand/v2"
	"testing"

	"lych/api"
	"lych/tcp"
)

// Two addresses between which the known segments go.
const (
	here  = 0x0a000001
	there = 0xcb007105
)

// knownSum is the known segment's checksum between here and there, worked out apart from the program.
const knownSum = 0xb482

func random(seed uint64) *rand.Rand { return rand.New(rand.NewPCG(seed, 5)) }

func randomBytes(r *rand.Rand, n int) []byte {
	b := make([]byte, n)
	for i := range b {
		b[i] = byte(r.Uint32())
	}
	return b
}

// randomSegment is one with that many bytes of options and of a body.
func randomSegment(r *rand.Rand, opts, body int) api.Tcp {
	return api.Tcp{
		Src: uint16(r.Uint32()), Dst: uint16(r.Uint32()),
		Seq: r.Uint32(), Ack: r.Uint32(), Flags: byte(r.Uint32()),
		Win: uint16(r.Uint32()), Sum: uint16(r.Uint32()), Urg: uint16(r.Uint32()),
		Opts: randomBytes(r, opts), Body: randomBytes(r, body),
	}
}

// sameSegment tells whether two segments are alike, no list and an empty one being one.
func sameSegment(a, b api.Tcp) bool {
	return a.Src == b.Src && a.Dst == b.Dst && a.Seq == b.Seq && a.Ack == b.Ack &&
		a.Flags == b.Flags && a.Win == b.Win && a.Sum == b.Sum && a.Urg == b.Urg &&
		bytes.Equal(a.Opts, b.Opts) && bytes.Equal(a.Body, b.Body)
}

// isNought tells whether nothing at all stands in s.
func isNought(s api.Tcp) bool { return sameSegment(s, api.Tcp{}) }

// bytesSummed is b's words as a plain sum, a byte that is left being a higher one.
func bytesSummed(b []byte) uint64 {
	s := uint64(0)
	for i, x := range b {
		if i%2 == 0 {
			s += 256 * uint64(x)
		} else {
			s += uint64(x)
		}
	}
	return s
}

// summed is s's words and the pseudo ones, told without the program: a plain sum of whole numbers, brought to 1 .. ffff by its rest (it is never nought: 6 is in it).
func summed(src, dst uint32, s api.Tcp) uint16 {
	head := uint64(20 + len(s.Opts))
	n := head + uint64(len(s.Body))
	t := uint64(src/65536) + uint64(src%65536) + uint64(dst/65536) + uint64(dst%65536) + 6 + n
	t += uint64(s.Src) + uint64(s.Dst)
	t += uint64(s.Seq/65536) + uint64(s.Seq%65536) + uint64(s.Ack/65536) + uint64(s.Ack%65536)
	t += head/4*4096 + uint64(s.Flags) + uint64(s.Win) + uint64(s.Sum) + uint64(s.Urg)
	t += bytesSummed(s.Opts) + bytesSummed(s.Body)
	return uint16((t-1)%0xffff + 1)
}

// checksum is what Sum must tell, told without the program.
func checksum(src, dst uint32, s api.Tcp) uint16 {
	s.Sum = 0
	return 0xffff - summed(src, dst, s)
}

// plain is the known segment without options and body, and without a Sum.
func plain() api.Tcp {
	return api.Tcp{
		Src: 0x1112, Dst: 0x2122, Seq: 0x31323334, Ack: 0x41424344,
		Flags: 0x51, Win: 0x6162, Urg: 0x8182,
	}
}

// known is a segment each of whose bytes is told by hand: a swapped or shifted part shows.
func known() ([]byte, api.Tcp) {
	b := []byte{
		0x11, 0x12, 0x21, 0x22,
		0x31, 0x32, 0x33, 0x34,
		0x41, 0x42, 0x43, 0x44,
		0x70, 0x51, 0x61, 0x62,
		0xb4, 0x82, 0x81, 0x82,
		0x91, 0x92, 0x93, 0x94, 0x95, 0x96, 0x97, 0x98,
		0xa1, 0xa2, 0xa3,
	}
	s := plain()
	s.Sum = knownSum
	s.Opts = []byte{0x91, 0x92, 0x93, 0x94, 0x95, 0x96, 0x97, 0x98}
	s.Body = []byte{0xa1, 0xa2, 0xa3}
	return b, s
}

// made is a row of n bytes whose byte 12 is told.
func made(twelve byte, n int) []byte {
	b := randomBytes(random(uint64(twelve)*70000+uint64(n)), n)
	b[12] = twelve
	return b
}

// wantParse holds Parse to an error, and to nothing beside it.
func wantParse(t *testing.T, what string, b []byte, want api.Errno) {
	t.Helper()
	got, err := tcp.Parse(b)
	if err != want {
		t.Errorf("%s: %v, want %v", what, err, want)
	}
	if err != api.OK && !isNought(got) {
		t.Errorf("%s: beside %v: %x", what, err, got)
	}
}

// wantRefused holds Bytes to an error, and to nothing beside it.
func wantRefused(t *testing.T, opts, body int, want api.Errno) {
	t.Helper()
	s := randomSegment(random(uint64(opts*70000+body)), opts, body)
	if got, err := tcp.Bytes(s); err != want || len(got) != 0 {
		t.Errorf("options of %d, a body of %d: %d bytes, %v, want %v", opts, body, len(got), err, want)
	}
}

// P5.1: each part is read from its place.
func TestParse(t *testing.T) {
	b, want := known()
	if got, err := tcp.Parse(b); err != api.OK || !sameSegment(got, want) {
		t.Errorf("Parse(% x) = %x, %v", b, got, err)
	}
}

// P5.1: each part is written at its place, Sum as it is told, the header's length with them.
func TestBytes(t *testing.T) {
	want, s := known()
	if got, err := tcp.Bytes(s); err != api.OK || !bytes.Equal(got, want) {
		t.Errorf("Bytes(%x) = % x, %v", s, got, err)
	}
	for _, c := range []uint16{0, 1, 0xff00, 0xffff} {
		s.Sum, want[16], want[17] = c, byte(c>>8), byte(c)
		if got, err := tcp.Bytes(s); err != api.OK || !bytes.Equal(got, want) {
			t.Errorf("Sum %04x: % x, %v", c, got, err)
		}
	}
}

// P5.1: the chapter's example: 20 bytes with 50 at byte 12 have no body, and no options.
func TestExample(t *testing.T) {
	b := make([]byte, 20)
	b[12] = 0x50
	if got, err := tcp.Parse(b); err != api.OK || len(got.Body) != 0 || !isNought(got) {
		t.Errorf("Parse: %x, %v", got, err)
	}
	if got, err := tcp.Bytes(api.Tcp{}); err != api.OK || !bytes.Equal(got, b) {
		t.Errorf("Bytes: % x, %v", got, err)
	}
	whole, s := known()
	whole = whole[:20:20]
	whole[12], s.Opts, s.Body = 0x50, nil, nil
	if got, err := tcp.Parse(whole); err != api.OK || !sameSegment(got, s) {
		t.Errorf("Parse: %x, %v", got, err)
	}
}

// P5.1: fewer than 20 bytes are too few, whatever they tell; 20 are enough.
func TestParseFewBytes(t *testing.T) {
	wantParse(t, "nil", nil, api.ErrShort)
	wantParse(t, "empty", []byte{}, api.ErrShort)
	for _, twelve := range []byte{0x00, 0x40, 0x4f, 0x50, 0x60, 0xff} {
		b := made(twelve, 20)
		for n := range 20 {
			wantParse(t, "cut", b[:n:n], api.ErrShort)
		}
	}
	wantParse(t, "20 bytes", made(0x50, 20), api.OK)
}

// P5.1: a header below 20 bytes is a wrong form, however many bytes there are.
func TestParseShortHeader(t *testing.T) {
	for twelve := range 0x50 {
		for _, n := range []int{20, 21, 60, 100} {
			wantParse(t, "a short header", made(byte(twelve), n), api.ErrForm)
		}
	}
	wantParse(t, "20 noughts", make([]byte, 20), api.ErrForm)
	wantParse(t, "a header of 16 bytes", made(0x40, 20), api.ErrForm)
	wantParse(t, "a header of 20 bytes", made(0x50, 20), api.OK)
}

// P5.1: too few bytes for any header are named ahead of a wrong form; a wrong form never comes with too few bytes for its header.
func TestParseWhichErrorFirst(t *testing.T) {
	for twelve := range 0x50 {
		b := made(byte(twelve), 20)
		for _, n := range []int{0, 12, 13, 16, 19} {
			wantParse(t, "few bytes and a short header", b[:n:n], api.ErrShort)
		}
		wantParse(t, "20 bytes and a short header", b, api.ErrForm)
	}
	wantParse(t, "19 bytes and a header of 24", made(0x60, 19), api.ErrShort)
	wantParse(t, "19 bytes and a header of 16", made(0x40, 19), api.ErrShort)
	wantParse(t, "20 bytes and a header of 16", made(0x40, 20), api.ErrForm)
	wantParse(t, "20 bytes and a header of 24", made(0x60, 20), api.ErrShort)
}

// P5.1: every byte 12 with every number of bytes about the headers' ends: options up to the header, a body behind it, too few bytes below it.
func TestParseEachHeader(t *testing.T) {
	for twelve := range 256 {
		head := 4 * (twelve / 16)
		for n := 20; n < 70; n++ {
			b := made(byte(twelve), n)
			if head < 20 {
				wantParse(t, "a short header", b, api.ErrForm)
				continue
			}
			if n < head {
				wantParse(t, "a long header", b, api.ErrShort)
				continue
			}
			got, err := tcp.Parse(b)
			if err != api.OK || !bytes.Equal(got.Opts, b[20:head]) || !bytes.Equal(got.Body, b[head:]) {
				t.Fatalf("%02x in %d bytes: %x, %v", twelve, n, got, err)
			}
		}
	}
}

// P5.1: a header of just b's bytes has no body behind it; one byte less, or four more of a header, is too few bytes.
func TestParseHeaderOfAllBytes(t *testing.T) {
	for words := 5; words <= 15; words++ {
		b := made(byte(words<<4), 4*words)
		if got, err := tcp.Parse(b); err != api.OK || len(got.Opts) != 4*words-20 || len(got.Body) != 0 {
			t.Errorf("a header of %d: %x, %v", 4*words, got, err)
		}
		if got, err := tcp.Parse(append(bytes.Clone(b), 7)); err != api.OK || !bytes.Equal(got.Body, []byte{7}) {
			t.Errorf("a header of %d and a byte: %x, %v", 4*words, got, err)
		}
		wantParse(t, "a byte less", b[:len(b)-1:len(b)-1], api.ErrShort)
		if words < 15 {
			b[12] += 0x10
			wantParse(t, "four more", b, api.ErrShort)
		}
	}
}

// P5.1: the longest header there is.
func TestParseLongestHeader(t *testing.T) {
	b := made(0xf0, 61)
	if got, err := tcp.Parse(b); err != api.OK || !bytes.Equal(got.Opts, b[20:60]) || !bytes.Equal(got.Body, b[60:]) {
		t.Errorf("61 bytes: %x, %v", got, err)
	}
	wantParse(t, "60 bytes", b[:60:60], api.OK)
	wantParse(t, "59 bytes", b[:59:59], api.ErrShort)
	wantParse(t, "20 bytes", b[:20:20], api.ErrShort)
}

// P5.1: the lower half of byte 12 says nothing.
func TestParseLowerHalf(t *testing.T) {
	b, want := known()
	for low := range 16 {
		b[12] = 0x70 | byte(low)
		if got, err := tcp.Parse(b); err != api.OK || !sameSegment(got, want) {
			t.Errorf("%x: %x, %v", low, got, err)
		}
	}
	for low := range 16 {
		wantParse(t, "a header of 16 bytes", made(0x40|byte(low), 20), api.ErrForm)
		wantParse(t, "a header of 20 bytes", made(0x50|byte(low), 20), api.OK)
		wantParse(t, "a header of 24 bytes", made(0x60|byte(low), 20), api.ErrShort)
	}
}

// P5.1: the lower half of byte 12 is nought when it is written, at all options and flags.
func TestBytesLowerHalf(t *testing.T) {
	r := random(3)
	for n := 0; n <= 40; n += 4 {
		for flags := range 256 {
			s := randomSegment(r, n, r.IntN(5))
			s.Flags = byte(flags)
			b, err := tcp.Bytes(s)
			if err != api.OK || b[12] != byte(16*(5+n/4)) || b[13] != byte(flags) {
				t.Fatalf("options of %d, flags %02x: % x, %v", n, flags, b, err)
			}
		}
	}
}

// P5.1: Parse holds no checksum against the bytes: it reads each one as it stands.
func TestParseAnyChecksum(t *testing.T) {
	b, want := known()
	for c := range 1 << 16 {
		b[16], b[17], want.Sum = byte(c>>8), byte(c), uint16(c)
		if got, err := tcp.Parse(b); err != api.OK || !sameSegment(got, want) {
			t.Fatalf("%04x: %x, %v", c, got, err)
		}
	}
}

// P5.1: Parse names no length that is too long: all that stands behind the header is the body.
func TestParseLong(t *testing.T) {
	for _, n := range []int{65515, 65516, 65535, 65536, 1 << 17} {
		for _, words := range []int{5, 15} {
			b := made(byte(words<<4), n)
			got, err := tcp.Parse(b)
			if err != api.OK || !bytes.Equal(got.Opts, b[20:4*words]) || !bytes.Equal(got.Body, b[4*words:]) {
				t.Errorf("%d bytes, a header of %d: a body of %d, %v", n, 4*words, len(got.Body), err)
			}
		}
	}
}

// P5.1: options that aren't a multiple of 4, or above 40, are a wrong form; all others are written.
func TestBytesOptions(t *testing.T) {
	r := random(5)
	for n := range 300 {
		if n%4 != 0 || n > 40 {
			wantRefused(t, n, 0, api.ErrForm)
			wantRefused(t, n, 9, api.ErrForm)
			continue
		}
		s := randomSegment(r, n, 9)
		b, err := tcp.Bytes(s)
		if err != api.OK || len(b) != 29+n || int(b[12]) != (20+n)*4 || !bytes.Equal(b[20:20+n], s.Opts) || !bytes.Equal(b[20+n:], s.Body) {
			t.Errorf("options of %d: % x, %v", n, b, err)
		}
	}
	for _, n := range []int{1 << 10, 65532, 65536, 1<<16 + 4, 1 << 20} {
		wantRefused(t, n, 0, api.ErrForm)
	}
}

// P5.1: a segment of 65515 bytes may be written, one of 65516 is too long, without options and with them.
func TestBytesLongest(t *testing.T) {
	r := random(7)
	for n := 0; n <= 40; n += 4 {
		most := 65515 - 20 - n
		s := randomSegment(r, n, most)
		b, err := tcp.Bytes(s)
		if err != api.OK || len(b) != 65515 {
			t.Fatalf("options of %d: %d bytes, %v", n, len(b), err)
		}
		if got, err := tcp.Parse(b); err != api.OK || !sameSegment(got, s) {
			t.Errorf("options of %d, read: a body of %d, %v", n, len(got.Body), err)
		}
		for _, more := range []int{1, 2, 4, 20, 21, 40, 1 << 16, 1 << 17} {
			wantRefused(t, n, most+more, api.ErrBig)
		}
	}
}

// P5.1: wrong options are named ahead of too long a segment.
func TestBytesWhichErrorFirst(t *testing.T) {
	for _, opts := range []int{1, 2, 3, 39, 41, 44, 48} {
		for _, body := range []int{0, 65515 - 20 - opts, 65515 - 20 - opts + 1, 65536, 1 << 17} {
			wantRefused(t, opts, body, api.ErrForm)
		}
	}
	wantRefused(t, 65532, 65536, api.ErrForm)
	wantRefused(t, 4, 65492, api.ErrBig)
}

// P5.1: no options and no body, nil or empty, are the same segment.
func TestBytesNoLists(t *testing.T) {
	want, _ := known()
	want = want[:20:20]
	want[12], want[16], want[17] = 0x50, 0, 0
	for _, opts := range [][]byte{nil, {}} {
		for _, body := range [][]byte{nil, {}} {
			s := plain()
			s.Opts, s.Body = opts, body
			if got, err := tcp.Bytes(s); err != api.OK || !bytes.Equal(got, want) {
				t.Errorf("% x, %v", got, err)
			}
		}
	}
}

// P5.1: what is written is read as it was.
func TestWrittenThenRead(t *testing.T) {
	r := random(11)
	for opts := 0; opts <= 40; opts += 4 {
		for body := range 200 {
			s := randomSegment(r, opts, body)
			b, err := tcp.Bytes(s)
			if err != api.OK || len(b) != 20+opts+body {
				t.Fatalf("%x: %d bytes, %v", s, len(b), err)
			}
			if got, err := tcp.Parse(b); err != api.OK || !sameSegment(got, s) {
				t.Fatalf("%x: %x, %v", s, got, err)
			}
		}
	}
}

// P5.1: what is read is written as it was, but for the lower half of byte 12.
func TestReadThenWritten(t *testing.T) {
	r := random(13)
	for range 20000 {
		head := 20 + 4*r.IntN(11)
		b := randomBytes(r, head+r.IntN(50))
		b[12] = byte(head/4<<4 | r.IntN(16))
		s, err := tcp.Parse(b)
		if err != api.OK {
			t.Fatalf("% x: %v", b, err)
		}
		b[12] = byte(head / 4 << 4)
		if got, err := tcp.Bytes(s); err != api.OK || !bytes.Equal(got, b) {
			t.Fatalf("% x: % x, %v", b, got, err)
		}
	}
}

// P5.2: checksums that were worked out apart from the program, of bodies of even and odd lengths, with and without options.
func TestSum(t *testing.T) {
	opts := []byte{0x91, 0x92, 0x93, 0x94, 0x95, 0x96, 0x97, 0x98}
	for _, c := range []struct {
		opts, body []byte
		want       uint16
	}{
		{nil, nil, 0x6b87},
		{[]byte{}, []byte{}, 0x6b87},
		{nil, []byte{0xa1}, 0xca85},
		{opts, nil, 0xf928},
		{opts, []byte{0xa1, 0xa2, 0xa3}, knownSum},
		{opts, []byte{0xa1, 0xa2, 0xa3, 0xa4}, 0xb3dd},
	} {
		s := plain()
		s.Opts, s.Body = c.opts, c.body
		if got := tcp.Sum(here, there, s); got != c.want {
			t.Errorf("%x: %04x, want %04x", s, got, c.want)
		}
	}
	if got := tcp.Sum(0, 0, api.Tcp{}); got != 0xafe5 {
		t.Errorf("noughts: %04x", got)
	}
}

// P5.2: Sum at each length about the words' ends, at noughts, ones and mixed bytes, and at the longest.
func TestSumOfBodies(t *testing.T) {
	r := random(17)
	lengths := []int{1000, 1001, 65454, 65455}
	for n := range 70 {
		lengths = append(lengths, n)
	}
	for _, n := range lengths {
		for _, body := range [][]byte{make([]byte, n), bytes.Repeat([]byte{0xff}, n), randomBytes(r, n)} {
			for _, src := range []uint32{0, 1, 0xffff, 0x10000, 0xffffffff, r.Uint32()} {
				s := randomSegment(r, 4*r.IntN(11), 0)
				s.Body = body
				dst := r.Uint32()
				if got, want := tcp.Sum(src, dst, s), checksum(src, dst, s); got != want {
					t.Fatalf("Sum(%x, %x, options of %d, a body of %d) = %04x, want %04x", src, dst, len(s.Opts), n, got, want)
				}
			}
		}
	}
}

// P5.2: a checksum hangs on no Sum that stood there.
func TestSumOfAnySum(t *testing.T) {
	_, s := known()
	for c := range 1 << 16 {
		s.Sum = uint16(c)
		if got := tcp.Sum(here, there, s); got != knownSum {
			t.Fatalf("Sum %04x: %04x", c, got)
		}
	}
}

// P5.2: where the checksum is 0, it is 0 and no other nought; one beside it, it is 1 or fffe.
func TestSumNought(t *testing.T) {
	for _, c := range []struct {
		urg        uint16
		opts, body []byte
		want       uint16
	}{
		{0xed09, nil, nil, 0x0000},
		{0xed08, nil, nil, 0x0001},
		{0xed0a, nil, nil, 0xfffe},
		{0x8182, nil, []byte{0x6b, 0x85}, 0x0000},
		{0x8182, nil, []byte{0x6b, 0x84}, 0x0001},
		{0x8182, nil, []byte{0x6b, 0x86}, 0xfffe},
		{0x8182, []byte{0, 0, 0x5b, 0x83}, nil, 0x0000},
	} {
		s := plain()
		s.Urg, s.Opts, s.Body = c.urg, c.opts, c.body
		if got := tcp.Sum(here, there, s); got != c.want {
			t.Errorf("%x: %04x, want %04x", s, got, c.want)
		}
		s.Sum = c.want
		if !tcp.Right(here, there, s) {
			t.Errorf("%x isn't right", s)
		}
	}
	// All words at one place: each checksum but ffff comes up.
	seen := map[uint16]int{}
	for w := range 1 << 16 {
		seen[tcp.Sum(here, there, api.Tcp{Src: uint16(w)})]++
	}
	if len(seen) != 0xffff || seen[0] == 0 || seen[0xffff] != 0 {
		t.Errorf("%d checksums, %d times 0, %d times ffff", len(seen), seen[0], seen[0xffff])
	}
}

// refused are segments that Bytes refuses: by their options, by their length, by both.
func refused() []api.Tcp {
	r := random(19)
	var list []api.Tcp
	for _, n := range [][2]int{{1, 0}, {3, 5}, {41, 0}, {44, 5}, {0, 65496}, {4, 65492}, {40, 65456}, {0, 65535 - 20}, {0, 65536}, {3, 65536}, {44, 1 << 17}, {65516, 0}} {
		list = append(list, randomSegment(r, n[0], n[1]))
	}
	return list
}

// P5.2: Sum of a segment that Bytes refuses is 0, of the longest that it doesn't refuse it isn't.
func TestSumOfRefused(t *testing.T) {
	for _, s := range refused() {
		for _, c := range []uint16{0, 1, 0xffff, s.Sum} {
			s.Sum = c
			if got := tcp.Sum(here, there, s); got != 0 {
				t.Errorf("options of %d, a body of %d: %04x", len(s.Opts), len(s.Body), got)
			}
		}
	}
	r := random(21)
	for n := 0; n <= 40; n += 4 {
		s := randomSegment(r, n, 65495-n)
		if got := tcp.Sum(here, there, s); got == 0 || got != checksum(here, there, s) {
			t.Errorf("options of %d: %04x", n, got)
		}
	}
}

// P5.2: of all Sums of a segment just its own is right; where that is 0, the other nought is, too, for the words sum alike.
func TestRightOfEachSum(t *testing.T) {
	_, s := known()
	for c := range 1 << 16 {
		s.Sum = uint16(c)
		if got, want := tcp.Right(here, there, s), c == knownSum; got != want {
			t.Fatalf("Sum %04x: %v", c, got)
		}
	}
	s = plain()
	s.Urg = 0xed09
	for c := range 1 << 16 {
		s.Sum = uint16(c)
		if got, want := tcp.Right(here, there, s), c == 0 || c == 0xffff; got != want {
			t.Fatalf("its own is 0, Sum %04x: %v", c, got)
		}
	}
}

// P5.2: Right is whether all words sum to ffff, whatever they are.
func TestRight(t *testing.T) {
	r := random(23)
	for range 20000 {
		s := randomSegment(r, 4*r.IntN(11), r.IntN(40))
		src, dst := r.Uint32(), r.Uint32()
		switch r.IntN(3) {
		case 0:
			s.Sum = checksum(src, dst, s)
		case 1:
			s.Sum = 0
		}
		if got, want := tcp.Right(src, dst, s), summed(src, dst, s) == 0xffff; got != want {
			t.Fatalf("Right(%x, %x, %x) = %v", src, dst, s, got)
		}
	}
}

// wrong tells that s isn't right between these addresses.
func wrong(t *testing.T, what string, src, dst uint32, s api.Tcp) {
	t.Helper()
	if tcp.Right(src, dst, s) {
		t.Fatalf("%s: Right(%x, %x, %x)", what, src, dst, s)
	}
}

// wrongBits tells that s isn't right with any one bit of a list of its own turned.
func wrongBits(t *testing.T, what string, list []byte, src, dst uint32, s api.Tcp) {
	t.Helper()
	for i := range 8 * len(list) {
		list[i/8] ^= 1 << (i % 8)
		wrong(t, what, src, dst, s)
		list[i/8] ^= 1 << (i % 8)
	}
}

// P5.2: one bit elsewhere, in an address or in a list, and no checksum is right.
func TestRightOneBit(t *testing.T) {
	r := random(29)
	for n := range 44 {
		s := randomSegment(r, n/4*4, n)
		src, dst := r.Uint32(), r.Uint32()
		s.Sum = checksum(src, dst, s)
		for bit := range 32 {
			wrong(t, "another source", src^1<<bit, dst, s)
			wrong(t, "another destination", src, dst^1<<bit, s)
		}
		wrongBits(t, "other options", s.Opts, src, dst, s)
		wrongBits(t, "another body", s.Body, src, dst, s)
	}
}

// P5.2: one bit elsewhere in any number of a segment, Sum among them, and no checksum is right.
func TestRightOneBitOfNumbers(t *testing.T) {
	r := random(31)
	for range 100 {
		s := randomSegment(r, 4*r.IntN(11), r.IntN(9))
		src, dst := r.Uint32(), r.Uint32()
		s.Sum = checksum(src, dst, s)
		for bit := range 32 {
			a, b := s, s
			a.Seq ^= 1 << bit
			b.Ack ^= 1 << bit
			wrong(t, "another Seq", src, dst, a)
			wrong(t, "another Ack", src, dst, b)
		}
		for bit := range 16 {
			a, b, c, d, e := s, s, s, s, s
			a.Src ^= 1 << bit
			b.Dst ^= 1 << bit
			c.Win ^= 1 << bit
			d.Sum ^= 1 << bit
			e.Urg ^= 1 << bit
			for _, x := range []api.Tcp{a, b, c, d, e} {
				wrong(t, "another word", src, dst, x)
			}
		}
		for bit := range 8 {
			a := s
			a.Flags ^= 1 << bit
			wrong(t, "other Flags", src, dst, a)
		}
	}
}

// P5.2: another source or another destination, and the known segment isn't right; with the two swapped it is, for they are summed alike.
func TestRightOfAddresses(t *testing.T) {
	_, s := known()
	if !tcp.Right(here, there, s) || !tcp.Right(there, here, s) {
		t.Error("the known segment isn't right")
	}
	for _, other := range []uint32{0, here + 1, here - 1, here + 0x10000, there + 1, 0xffffffff} {
		wrong(t, "another source", other, there, s)
	}
	for _, other := range []uint32{0, there + 1, there - 1, there + 0x10000, here + 1, 0xffffffff} {
		wrong(t, "another destination", here, other, s)
	}
}

// P5.2: the length is among the words, and the header's too: a nought more or less shows.
func TestRightAnotherLength(t *testing.T) {
	s := plain()
	s.Opts, s.Body = []byte{1, 2, 3, 4, 0, 0, 0, 0}, []byte{0x31, 0x32, 0x33, 0x00}
	s.Sum = checksum(here, there, s)
	longer, shorter, fewer, moved := s, s, s, s
	longer.Body = append(bytes.Clone(s.Body), 0)
	shorter.Body = s.Body[:3]
	fewer.Opts = s.Opts[:4]
	moved.Opts, moved.Body = s.Opts[:4], append(bytes.Clone(s.Opts[4:]), s.Body...)
	for _, other := range []api.Tcp{longer, shorter, fewer, moved} {
		wrong(t, "another length", here, there, other)
	}
}

// P5.2: a segment that Bytes refuses has no words that could sum to ffff, whatever its Sum.
func TestRightOfRefused(t *testing.T) {
	for _, s := range refused() {
		for _, c := range []uint16{0, 1, checksum(here, there, s), 0xffff} {
			s.Sum = c
			if tcp.Right(here, there, s) {
				t.Errorf("options of %d, a body of %d, Sum %04x", len(s.Opts), len(s.Body), c)
			}
		}
	}
}

// P5.3: a segment with its Sum is Right, at each length, between any addresses.
func TestWithItsSumIsRight(t *testing.T) {
	r := random(37)
	lengths := []int{1599, 1600, 65454, 65455}
	for n := range 300 {
		lengths = append(lengths, n)
	}
	for _, n := range lengths {
		for _, src := range []uint32{0, 0xffffffff, 0xffff, 0xffff0000, r.Uint32()} {
			s := randomSegment(r, 4*r.IntN(11), n)
			dst := r.Uint32()
			s.Sum = tcp.Sum(src, dst, s)
			if !tcp.Right(src, dst, s) {
				t.Fatalf("a body of %d, %x, %x, Sum %04x", n, src, dst, s.Sum)
			}
		}
	}
}

// P5.3: it is Right still when it has been written and read.
func TestWithItsSumIsRightWhenRead(t *testing.T) {
	r := random(41)
	for range 5000 {
		s := randomSegment(r, 4*r.IntN(11), r.IntN(60))
		src, dst := r.Uint32(), r.Uint32()
		s.Sum = tcp.Sum(src, dst, s)
		b, err := tcp.Bytes(s)
		if err != api.OK {
			t.Fatalf("%x: %v", s, err)
		}
		if got, err := tcp.Parse(b); err != api.OK || !tcp.Right(src, dst, got) {
			t.Fatalf("%x: %x, %v", s, got, err)
		}
	}
}

// P5.3: at every port, so at every sum that the other words may have, 0 among them.
func TestWithItsSumIsRightAtEachPort(t *testing.T) {
	for port := range 1 << 16 {
		s := api.Tcp{Src: uint16(port), Dst: 80, Flags: api.FlagSyn, Body: []byte{7}}
		s.Sum = tcp.Sum(here, there, s)
		if !tcp.Right(here, there, s) {
			t.Fatalf("port %d: Sum %04x", port, s.Sum)
		}
	}
}

// DOC.md, what holds everywhere, 1: no bytes make a call panic.
func TestAnyBytes(t *testing.T) {
	r := random(43)
	for range 200000 {
		b := randomBytes(r, r.IntN(70))
		got, err := tcp.Parse(b)
		if err != api.OK && !isNought(got) {
			t.Fatalf("% x: beside %v: %x", b, err, got)
		}
		tcp.Right(r.Uint32(), r.Uint32(), got)
	}
}

// DOC.md, what holds everywhere, 3: spare room makes no short row a segment, and is neither written nor summed.
func TestSpareRoomSaysNothing(t *testing.T) {
	b, s := known()
	for n := range 28 {
		wantParse(t, "the rest in the room behind", b[:n], api.ErrShort)
	}
	if got, err := tcp.Parse(b[:29]); err != api.OK || !bytes.Equal(got.Body, []byte{0xa1}) {
		t.Errorf("%x, %v", got, err)
	}
	behind := bytes.Repeat([]byte{0xaa}, 70000)
	s.Opts = append(bytes.Clone(s.Opts), behind...)[:8]
	s.Body = append(bytes.Clone(s.Body), behind...)[:3]
	if got, err := tcp.Bytes(s); err != api.OK || !bytes.Equal(got, b) {
		t.Errorf("%d bytes, %v", len(got), err)
	}
	if got := tcp.Sum(here, there, s); got != knownSum || !tcp.Right(here, there, s) {
		t.Errorf("Sum: %04x", got)
	}
}

// spoil writes over a list, and over all its room.
func spoil(list []byte) {
	_ = append(list, 0xee)
	list = list[:cap(list)]
	for i := range list {
		list[i] ^= 0xff
	}
}

// DOC.md, what holds everywhere, 3: Parse leaves its bytes, and the room behind them, as they were; its answer is memory of its own.
func TestParseSharesNothing(t *testing.T) {
	first, want := known()
	row := append(bytes.Clone(first), 0x41, 0x42, 0x43)
	before := bytes.Clone(row)
	for n := 28; n <= len(row); n++ {
		s, _ := tcp.Parse(row[:n])
		if !bytes.Equal(row, before) {
			t.Fatalf("changed by reading: % x", row)
		}
		spoil(s.Opts)
		spoil(s.Body)
		if !bytes.Equal(row, before) {
			t.Fatalf("changed by its answer: % x", row)
		}
	}
	kept, _ := tcp.Parse(row[:len(first)])
	clear(row)
	if !sameSegment(kept, want) {
		t.Errorf("an answer is changed by its bytes: %x", kept)
	}
}

// DOC.md, what holds everywhere, 3: Opts and Body of one answer share nothing, their spare room included.
func TestOptsAndBodyShareNothing(t *testing.T) {
	b, want := known()
	one, _ := tcp.Parse(b)
	spoil(one.Opts)
	if !bytes.Equal(one.Body, want.Body) {
		t.Errorf("Body is changed by Opts: % x", one.Body)
	}
	two, _ := tcp.Parse(b)
	spoil(two.Body)
	if !bytes.Equal(two.Opts, want.Opts) {
		t.Errorf("Opts are changed by Body: % x", two.Opts)
	}
	// Without options, and without a body, too.
	r := random(47)
	for opts := 0; opts <= 40; opts += 4 {
		for body := range 20 {
			s := randomSegment(r, opts, body)
			b, _ := tcp.Bytes(s)
			got, _ := tcp.Parse(b)
			spoil(got.Opts)
			if !bytes.Equal(got.Body, s.Body) {
				t.Fatalf("options of %d, a body of %d", opts, body)
			}
		}
	}
}

// DOC.md, what holds everywhere, 3: Bytes leaves the segment, and the room behind its lists, as they were, even where one list lies behind the other; its answer is memory of its own.
func TestBytesSharesNothing(t *testing.T) {
	want, s := known()
	row := append(append(bytes.Clone(s.Opts), s.Body...), 0x41, 0x42, 0x43)
	before := bytes.Clone(row)
	s.Opts, s.Body = row[:8], row[8:11]
	b, _ := tcp.Bytes(s)
	if !bytes.Equal(row, before) {
		t.Fatalf("changed by writing: % x", row)
	}
	spoil(b)
	if !bytes.Equal(row, before) {
		t.Errorf("changed by its answer: % x", row)
	}
	kept, _ := tcp.Bytes(s)
	clear(row)
	if !bytes.Equal(kept, want) {
		t.Errorf("an answer is changed by its segment: % x", kept)
	}
}

// DOC.md, what holds everywhere, 3: Sum and Right leave the segment, and the room behind its lists, as they were.
func TestSumAndRightChangeNothing(t *testing.T) {
	for n := range 6 {
		opts, body := []byte{0x21, 0x22, 0x23, 0x24, 0x25}, []byte{0x31, 0x32, 0x33, 0x34, 0x35, 0x36, 0x37}
		opts0, body0 := bytes.Clone(opts), bytes.Clone(body)
		s := api.Tcp{Src: 1, Dst: 2, Sum: 3, Opts: opts[:4], Body: body[:n]}
		tcp.Sum(here, there, s)
		tcp.Right(here, there, s)
		if !bytes.Equal(opts, opts0) || !bytes.Equal(body, body0) || s.Sum != 3 {
			t.Errorf("a body of %d: % x, % x, %x", n, opts, body, s)
		}
	}
}

// DOC.md, what holds everywhere, 3: two answers of the same share nothing.
func TestAnswersShareNothing(t *testing.T) {
	b, want := known()
	one, _ := tcp.Parse(b)
	two, _ := tcp.Parse(b)
	spoil(one.Opts)
	spoil(one.Body)
	if !sameSegment(two, want) {
		t.Errorf("Parse: %x", two)
	}
	first, _ := tcp.Bytes(want)
	second, _ := tcp.Bytes(want)
	spoil(first)
	if !bytes.Equal(second, b) {
		t.Errorf("Bytes: % x", second)
	}
}

// DOC.md, what holds everywhere, 8: what is answered hangs on nothing that was asked ahead of it.
func TestNothingIsKept(t *testing.T) {
	b, want := known()
	for _, ahead := range [][]byte{nil, make([]byte, 20), made(0x60, 20), made(0xff, 120)} {
		s, _ := tcp.Parse(ahead)
		tcp.Bytes(s)
		tcp.Sum(1, 2, s)
		tcp.Right(1, 2, s)
		if got, err := tcp.Parse(b); err != api.OK || !sameSegment(got, want) {
			t.Errorf("behind % x: %x, %v", ahead, got, err)
		}
		if got := tcp.Sum(here, there, want); got != knownSum || !tcp.Right(here, there, want) {
			t.Errorf("behind % x: Sum %04x", ahead, got)
		}
	}
}
