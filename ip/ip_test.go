package ip_test

import (
	"bytes"
	"math/rand/v2"
	"testing"

	"lych/api"
	"lych/ip"
)

func random(seed uint64) *rand.Rand { return rand.New(rand.NewPCG(seed, 3)) }

func randomBytes(r *rand.Rand, n int) []byte {
	b := make([]byte, n)
	for i := range b {
		b[i] = byte(r.Uint32())
	}
	return b
}

// randomPacket is one that may be written, with that many bytes of options and of a body.
func randomPacket(r *rand.Rand, opts, body int) api.Ip {
	return api.Ip{
		Tos: byte(r.Uint32()), Ttl: byte(r.Uint32()), Proto: byte(r.Uint32()),
		Id:    uint16(r.Uint32()),
		Flags: byte(r.IntN(8)), Offset: uint16(r.IntN(8192)),
		Src: r.Uint32(), Dst: r.Uint32(),
		Opts: randomBytes(r, opts), Body: randomBytes(r, body),
	}
}

// samePacket tells whether two packets are alike, no list and an empty one being one.
func samePacket(a, b api.Ip) bool {
	return a.Tos == b.Tos && a.Ttl == b.Ttl && a.Proto == b.Proto && a.Id == b.Id &&
		a.Flags == b.Flags && a.Offset == b.Offset && a.Src == b.Src && a.Dst == b.Dst &&
		bytes.Equal(a.Opts, b.Opts) && bytes.Equal(a.Body, b.Body)
}

// isNought tells whether nothing at all stands in p.
func isNought(p api.Ip) bool { return samePacket(p, api.Ip{}) }

// checksum is that of a header, told without the program: the words' sum modulo ffff, turned.
func checksum(head []byte) uint16 {
	s := 0
	for i, x := range head {
		switch i {
		case 10, 11:
		default:
			s += int(x) << (8 * (1 - i%2))
		}
	}
	if s%0xffff == 0 && s > 0 {
		return 0
	}
	return ^uint16(s % 0xffff)
}

// seal puts into b the checksum of its first n bytes.
func seal(b []byte, n int) []byte {
	c := checksum(b[:n])
	b[10], b[11] = byte(c>>8), byte(c)
	return b
}

// made is a packet of these lengths, its whole length told as it is said, its checksum right.
func made(first byte, head, whole, n int) []byte {
	b := randomBytes(random(uint64(head*whole+n)), n)
	b[0], b[2], b[3] = first, byte(whole>>8), byte(whole)
	return seal(b, min(head, n))
}

// plain is a packet without options each of whose bytes is told by itself, the checksum worked out apart from the program: a swapped or shifted part shows.
func plain() ([]byte, api.Ip) {
	b := []byte{
		0x45, 0x11, 0x00, 0x17,
		0x21, 0x22, 0xaa, 0xbb,
		0x31, 0x32, 0x94, 0x9a,
		0x41, 0x42, 0x43, 0x44,
		0x51, 0x52, 0x53, 0x54,
		0x71, 0x72, 0x73,
	}
	p := api.Ip{
		Tos: 0x11, Id: 0x2122, Flags: 5, Offset: 0x0abb, Ttl: 0x31, Proto: 0x32,
		Src: 0x41424344, Dst: 0x51525354, Body: []byte{0x71, 0x72, 0x73},
	}
	return b, p
}

// rich is one with options, likewise.
func rich() ([]byte, api.Ip) {
	b := []byte{
		0x47, 0x11, 0x00, 0x1f,
		0x21, 0x22, 0xaa, 0xbb,
		0x31, 0x32, 0xc9, 0xc5,
		0x41, 0x42, 0x43, 0x44,
		0x51, 0x52, 0x53, 0x54,
		0x61, 0x62, 0x63, 0x64, 0x01, 0x02, 0x03, 0x04,
		0x71, 0x72, 0x73,
	}
	p := api.Ip{
		Tos: 0x11, Id: 0x2122, Flags: 5, Offset: 0x0abb, Ttl: 0x31, Proto: 0x32,
		Src: 0x41424344, Dst: 0x51525354,
		Opts: []byte{0x61, 0x62, 0x63, 0x64, 0x01, 0x02, 0x03, 0x04},
		Body: []byte{0x71, 0x72, 0x73},
	}
	return b, p
}

// wantParse holds Parse to an error, and to nothing beside it.
func wantParse(t *testing.T, what string, b []byte, want api.Errno) {
	t.Helper()
	got, err := ip.Parse(b)
	if err != want {
		t.Errorf("%s: %v, want %v", what, err, want)
	}
	if err != api.OK && !isNought(got) {
		t.Errorf("%s: beside %v: %x", what, err, got)
	}
}

// wantBytes holds Bytes to an error, and to nothing beside it.
func wantBytes(t *testing.T, what string, p api.Ip, want api.Errno) {
	t.Helper()
	got, err := ip.Bytes(p)
	if err != want {
		t.Errorf("%s: %v, want %v", what, err, want)
	}
	if err != api.OK && len(got) != 0 {
		t.Errorf("%s: beside %v: %d bytes", what, err, len(got))
	}
}

// P3.1: each part is read from its place, with and without options.
func TestParse(t *testing.T) {
	for _, known := range []func() ([]byte, api.Ip){plain, rich} {
		b, want := known()
		if got, err := ip.Parse(b); err != api.OK || !samePacket(got, want) {
			t.Errorf("Parse(% x) = %x, %v", b, got, err)
		}
	}
}

// P3.2: each part is written at its place, with and without options, the checksum with them.
func TestBytes(t *testing.T) {
	for _, known := range []func() ([]byte, api.Ip){plain, rich} {
		want, p := known()
		if got, err := ip.Bytes(p); err != api.OK || !bytes.Equal(got, want) {
			t.Errorf("Bytes(%x) = % x, %v", p, got, err)
		}
	}
}

// P3.1, P3.2: the chapter's example: a header of 45 00 00 14 .., its checksum right, has no body.
func TestExample(t *testing.T) {
	b := make([]byte, 20)
	copy(b, []byte{0x45, 0x00, 0x00, 0x14})
	b[10], b[11] = 0xba, 0xeb
	if got, err := ip.Parse(b); err != api.OK || !isNought(got) {
		t.Errorf("Parse: %x, %v", got, err)
	}
	if got, err := ip.Bytes(api.Ip{}); err != api.OK || !bytes.Equal(got, b) {
		t.Errorf("Bytes: % x, %v", got, err)
	}
}

// P3.1: fewer than 20 bytes are too few, whatever they are.
func TestParseFewBytes(t *testing.T) {
	b := made(0x45, 20, 20, 20)
	for n := range 20 {
		wantParse(t, "cut", b[:n:n], api.ErrShort)
	}
	wantParse(t, "nil", nil, api.ErrShort)
	wantParse(t, "empty", []byte{}, api.ErrShort)
	wantParse(t, "20 bytes", b, api.OK)
}

// P3.1: too few bytes are named ahead of a wrong form, a wrong form ahead of too few bytes for what it tells, that ahead of a wrong checksum.
func TestParseWhichErrorFirst(t *testing.T) {
	wantParse(t, "19 bytes, version 6", bytes.Repeat([]byte{0x60}, 19), api.ErrShort)
	wantParse(t, "19 noughts", make([]byte, 19), api.ErrShort)
	wantParse(t, "20 noughts: form and checksum", make([]byte, 20), api.ErrForm)

	b := made(0x4f, 60, 1000, 20)
	wantParse(t, "no header, no length, perhaps no checksum", b, api.ErrShort)
	b[0] = 0x5f
	wantParse(t, "and another version", b, api.ErrForm)

	b = made(0x4f, 60, 59, 20)
	wantParse(t, "a length below a header that isn't there", b, api.ErrForm)

	b = made(0x45, 20, 21, 20)
	b[10]++
	wantParse(t, "too short, and another checksum", b, api.ErrShort)

	b = made(0x44, 16, 20, 20)
	b[10]++
	wantParse(t, "a header of 16, and another checksum", b, api.ErrForm)
}

// P3.1: each version but 4 is a wrong form.
func TestParseVersions(t *testing.T) {
	for v := range 16 {
		want := api.ErrForm
		if v == 4 {
			want = api.OK
		}
		wantParse(t, "version", made(byte(v<<4|5), 20, 20, 20), want)
	}
}

// P3.1: a header of fewer than 20 bytes is a wrong form; one of 20 to 60 bytes is taken as its options.
func TestParseHeaders(t *testing.T) {
	for words := range 16 {
		head := 4 * words
		b := made(byte(0x40|words), max(head, 20), 70, 70)
		if head < 20 {
			wantParse(t, "a short header", b, api.ErrForm)
			// The checksum of just that header is right: a form is wrong for its length alone.
			if head >= 12 {
				wantParse(t, "a short header", made(byte(0x40|words), head, 70, 70), api.ErrForm)
			}
			continue
		}
		got, err := ip.Parse(b)
		if err != api.OK || !bytes.Equal(got.Opts, b[20:head]) || !bytes.Equal(got.Body, b[head:]) {
			t.Errorf("a header of %d: %x, %v", head, got, err)
		}
	}
}

// P3.1: a whole length less than its header is a wrong form; just its header, no body; just b's bytes, all of them; one more, too few.
func TestParseLengths(t *testing.T) {
	for _, head := range []int{20, 24, 60} {
		first := byte(0x40 | head/4)
		wantParse(t, "no length", made(first, head, 0, head+7), api.ErrForm)
		wantParse(t, "just below its header", made(first, head, head-1, head+7), api.ErrForm)
		for whole := head; whole <= head+7; whole++ {
			b := made(first, head, whole, head+7)
			got, err := ip.Parse(b)
			if err != api.OK || !bytes.Equal(got.Body, b[head:whole]) {
				t.Errorf("a header of %d, a length of %d: %x, %v", head, whole, got, err)
			}
		}
		wantParse(t, "one more", made(first, head, head+8, head+7), api.ErrShort)
		wantParse(t, "256 more", made(first, head, head+7+256, head+7), api.ErrShort)
		wantParse(t, "the most", made(first, head, 65535, head+7), api.ErrShort)
	}
	wantParse(t, "a length of 20 in a header of 24", made(0x46, 24, 20, 24), api.ErrForm)
}

// P3.1: the longest packet there is.
func TestParseLongest(t *testing.T) {
	b := made(0x45, 20, 65535, 65536)
	got, err := ip.Parse(b)
	if err != api.OK || !bytes.Equal(got.Body, b[20:65535]) {
		t.Errorf("%d bytes of a body, %v", len(got.Body), err)
	}
	wantParse(t, "65534 of 65535 bytes", b[:65534], api.ErrShort)
}

// P3.1: fewer bytes than the header, or than the length, are too few, at each number of bytes.
func TestParseCut(t *testing.T) {
	b := made(0x4f, 60, 90, 90)
	for n := range 90 {
		wantParse(t, "cut", b[:n:n], api.ErrShort)
	}
	wantParse(t, "whole", b, api.OK)
}

// P3.1: a checksum that is off by one bit, or right of a header that is off by one bit: another one; the body isn't summed.
func TestParseChecksum(t *testing.T) {
	for _, known := range []func() ([]byte, api.Ip){plain, rich} {
		b, p := known()
		head := 20 + len(p.Opts)
		for i := range b {
			for bit := range 8 {
				b[i] ^= 1 << bit
				want := api.ErrSum
				switch {
				case i >= head:
					want = api.OK
				case i == 0:
					want = api.ErrForm
				}
				// The first byte's lower half and the whole length are tried elsewhere: they tell where the packet ends.
				if (i != 0 || bit > 3) && i != 2 && i != 3 {
					wantParse(t, "one bit", b, want)
				}
				b[i] ^= 1 << bit
			}
		}
	}
}

// P3.1: just one of all checksums is right for a header whose sum is no nought.
func TestParseOneChecksum(t *testing.T) {
	b, _ := plain()
	for c := range 1 << 16 {
		b[10], b[11] = byte(c>>8), byte(c)
		_, err := ip.Parse(b)
		if (err == api.OK) != (c == 0x949a) || err != api.OK && err != api.ErrSum {
			t.Fatalf("%04x: %v", c, err)
		}
	}
}

// P3.1, P3.2: where a header sums to ffff by itself both noughts are right, and the one that is 0 is written.
func TestTwoNoughts(t *testing.T) {
	b := make([]byte, 20)
	copy(b, []byte{0x45, 0x00, 0x00, 0x14, 0xba, 0xeb})
	want := api.Ip{Id: 0xbaeb}
	for _, c := range []byte{0x00, 0xff} {
		b[10], b[11] = c, c
		if got, err := ip.Parse(b); err != api.OK || !samePacket(got, want) {
			t.Errorf("%x: %x, %v", c, got, err)
		}
	}
	b[10], b[11] = 0, 0
	if got, err := ip.Bytes(want); err != api.OK || !bytes.Equal(got, b) {
		t.Errorf("% x, %v", got, err)
	}
}

// P3.1: what stands behind the packet is left out, and is not read.
func TestParseBehind(t *testing.T) {
	r := random(17)
	for _, known := range []func() ([]byte, api.Ip){plain, rich} {
		b, want := known()
		for n := range 100 {
			got, err := ip.Parse(append(bytes.Clone(b), randomBytes(r, n)...))
			if err != api.OK || !samePacket(got, want) {
				t.Fatalf("%d bytes behind: %x, %v", n, got, err)
			}
		}
	}
}

// P3.1, P3.2: Flags are the upper three bits of their word, Offset the lower thirteen, whatever they are.
func TestFlagsAndOffset(t *testing.T) {
	b, p := plain()
	for w := range 1 << 16 {
		b[6], b[7] = byte(w>>8), byte(w)
		seal(b, 20)
		got, err := ip.Parse(b)
		if err != api.OK || int(got.Flags) != w>>13 || int(got.Offset) != w&0x1fff {
			t.Fatalf("%04x: %x, %v", w, got, err)
		}
		p.Flags, p.Offset = byte(w>>13), uint16(w&0x1fff)
		if out, err := ip.Bytes(p); err != api.OK || !bytes.Equal(out, b) {
			t.Fatalf("%04x: % x, %v", w, out, err)
		}
	}
}

// P3.2: options of each length; only multiples of 4, up to 40, may be.
func TestBytesOpts(t *testing.T) {
	r := random(19)
	for n := range 300 {
		p := randomPacket(r, n, 5)
		if n%4 != 0 || n > 40 {
			wantBytes(t, "options", p, api.ErrForm)
			continue
		}
		got, err := ip.Bytes(p)
		if err != api.OK || len(got) != 25+n || int(got[0]) != 0x45+n/4 ||
			!bytes.Equal(got[20:20+n], p.Opts) || !bytes.Equal(got[20+n:], p.Body) {
			t.Errorf("options of %d: % x, %v", n, got, err)
		}
	}
}

// P3.2: Flags above 7, and Offset above 8191, are a wrong form.
func TestBytesFlagsAndOffset(t *testing.T) {
	for f := range 256 {
		want := api.OK
		if f > 7 {
			want = api.ErrForm
		}
		wantBytes(t, "Flags", api.Ip{Flags: byte(f)}, want)
	}
	for o := range 1 << 16 {
		want := api.OK
		if o > 8191 {
			want = api.ErrForm
		}
		wantBytes(t, "Offset", api.Ip{Offset: uint16(o)}, want)
	}
}

// P3.2: a packet of 65535 bytes may be, one of 65536 is too long, with and without options.
func TestBytesLongest(t *testing.T) {
	r := random(23)
	for _, opts := range []int{0, 4, 40} {
		p := randomPacket(r, opts, 65515-opts)
		b, err := ip.Bytes(p)
		if err != api.OK || len(b) != 65535 || b[2] != 0xff || b[3] != 0xff {
			t.Errorf("options of %d: %d bytes, %v", opts, len(b), err)
			continue
		}
		if got, err := ip.Parse(b); err != api.OK || !samePacket(got, p) {
			t.Errorf("options of %d, read: %v", opts, err)
		}
		p.Body = append(p.Body, 0)
		wantBytes(t, "65536 bytes", p, api.ErrBig)
	}
	wantBytes(t, "a body of 65535", api.Ip{Body: make([]byte, 65535)}, api.ErrBig)
	wantBytes(t, "a body of 65536", api.Ip{Body: make([]byte, 65536)}, api.ErrBig)
	wantBytes(t, "a body of 2^20", api.Ip{Body: make([]byte, 1<<20)}, api.ErrBig)
}

// P3.2: a wrong form is named ahead of too many bytes.
func TestBytesWhichErrorFirst(t *testing.T) {
	long := make([]byte, 65536)
	for _, p := range []api.Ip{
		{Opts: make([]byte, 3), Body: long},
		{Opts: make([]byte, 44), Body: long},
		{Opts: long, Body: long},
		{Opts: long},
		{Flags: 8, Body: long},
		{Offset: 8192, Body: long},
	} {
		wantBytes(t, "form and length", p, api.ErrForm)
	}
	wantBytes(t, "length alone", api.Ip{Opts: make([]byte, 40), Flags: 7, Offset: 8191, Body: long}, api.ErrBig)
}

// P3.2: no options and no body, nil or empty, are the same packet.
func TestBytesNothing(t *testing.T) {
	want, p := plain()
	want = want[:20]
	want[3] = 20
	seal(want, 20)
	for _, none := range [][]byte{nil, {}} {
		p.Opts, p.Body = none, none
		if got, err := ip.Bytes(p); err != api.OK || !bytes.Equal(got, want) {
			t.Errorf("% x, %v", got, err)
		}
	}
}

// P3.1, P3.2: what is written is read as it was, its checksum right.
func TestWrittenThenRead(t *testing.T) {
	r := random(29)
	for range 5000 {
		p := randomPacket(r, 4*r.IntN(11), r.IntN(200))
		b, err := ip.Bytes(p)
		if err != api.OK {
			t.Fatalf("%x: %v", p, err)
		}
		head := 20 + len(p.Opts)
		if c := checksum(b[:head]); b[10] != byte(c>>8) || b[11] != byte(c) {
			t.Fatalf("% x: the checksum is %04x", b[:head], c)
		}
		if got, err := ip.Parse(b); err != api.OK || !samePacket(got, p) {
			t.Fatalf("%x: %x, %v", p, got, err)
		}
	}
}

// P3.1, P3.2: what is read is written as it was.
func TestReadThenWritten(t *testing.T) {
	r := random(31)
	for range 5000 {
		head := 20 + 4*r.IntN(11)
		whole := head + r.IntN(200)
		b := made(byte(0x40|head/4), head, whole, whole)
		copy(b[4:10], randomBytes(r, 6))
		copy(b[12:], randomBytes(r, whole-12))
		seal(b, head)
		p, err := ip.Parse(b)
		if err != api.OK {
			t.Fatalf("% x: %v", b, err)
		}
		if got, err := ip.Bytes(p); err != api.OK || !bytes.Equal(got, b) {
			t.Fatalf("% x: % x, %v", b, got, err)
		}
	}
}

// P3.3: a packet that is cut out of a greater row is read from its own bytes: what lies ahead of it and behind it is not read.
func TestOnlyItsOwnBytes(t *testing.T) {
	r := random(37)
	for range 2000 {
		row := randomBytes(r, 300)
		from := r.IntN(100)
		copy(row[from:], made(0x46, 24, 24+r.IntN(100), 30+r.IntN(100)))
		b := row[from : from+r.IntN(200)]
		got, err := ip.Parse(b)
		alone, aloneErr := ip.Parse(bytes.Clone(b))
		if err != aloneErr || !samePacket(got, alone) {
			t.Fatalf("% x: %x, %v; alone: %x, %v", b, got, err, alone, aloneErr)
		}
	}
}

// P3.3: spare room makes no short row a packet, though the rest of one lies there.
func TestSpareRoomSaysNothing(t *testing.T) {
	b, _ := rich()
	for n := range b {
		wantParse(t, "the rest in the room behind", b[:n], api.ErrShort)
	}
	row := make([]byte, 70000)
	if got, err := ip.Bytes(api.Ip{Opts: row[:4], Body: row[:3]}); err != api.OK || len(got) != 27 {
		t.Errorf("%d bytes, %v", len(got), err)
	}
}

// P3.3: of packets that lie one behind the other, each is read from its own bytes.
func TestNeighboursStayApart(t *testing.T) {
	first, wantFirst := rich()
	second, wantSecond := plain()
	row := append(bytes.Clone(first), second...)
	if got, err := ip.Parse(row); err != api.OK || !samePacket(got, wantFirst) {
		t.Errorf("the first: %x, %v", got, err)
	}
	clear(row[:len(first)])
	if got, err := ip.Parse(row[len(first):]); err != api.OK || !samePacket(got, wantSecond) {
		t.Errorf("the second: %x, %v", got, err)
	}
}

// P3.3: a packet hangs on nothing that was read ahead of it, whether that was read or not.
func TestNothingIsKept(t *testing.T) {
	b, want := plain()
	other, _ := rich()
	for _, ahead := range [][]byte{nil, other, make([]byte, 20), made(0x45, 20, 21, 20), append([]byte{}, b[:22]...)} {
		ip.Parse(ahead)
		if got, err := ip.Parse(b); err != api.OK || !samePacket(got, want) {
			t.Errorf("behind % x: %x, %v", ahead, got, err)
		}
	}
}

// P3.3: a packet within a packet is its body, not read further.
func TestPacketWithinPacket(t *testing.T) {
	inner, _ := rich()
	p := api.Ip{Proto: 4, Ttl: 9, Body: inner}
	b, err := ip.Bytes(p)
	if err != api.OK {
		t.Fatal(err)
	}
	if got, err := ip.Parse(b); err != api.OK || !samePacket(got, p) {
		t.Errorf("%x, %v", got, err)
	}
}

// DOC.md, what holds everywhere, 1: no bytes make Parse panic.
func TestParseAnyBytes(t *testing.T) {
	r := random(41)
	for range 200000 {
		b := randomBytes(r, r.IntN(70))
		if len(b) > 3 && r.IntN(2) == 0 {
			b[0], b[2], b[3] = 0x40|b[0]&0x0f, 0, b[3]&0x3f
		}
		got, err := ip.Parse(b)
		if err != api.OK && !isNought(got) {
			t.Fatalf("% x: beside %v: %x", b, err, got)
		}
	}
}

// DOC.md, what holds everywhere, 3: Parse leaves its bytes, and the room behind them, as they were; its answer is memory of its own.
func TestParseSharesNothing(t *testing.T) {
	first, want := rich()
	row := append(bytes.Clone(first), 0x41, 0x42, 0x43)
	before := bytes.Clone(row)
	b := row[:len(first)]
	p, _ := ip.Parse(b)
	if !bytes.Equal(row, before) {
		t.Fatalf("changed by reading: % x", row)
	}
	p.Opts[0]++
	p.Body[0]++
	p.Opts = append(p.Opts, 0xee)
	p.Body = append(p.Body, 0xee)
	if !bytes.Equal(row, before) {
		t.Errorf("changed by its answer: % x", row)
	}
	kept, _ := ip.Parse(b)
	clear(row)
	if !samePacket(kept, want) {
		t.Errorf("an answer is changed by its bytes: %x", kept)
	}
}

// DOC.md, what holds everywhere, 3: no two lists of one answer share memory, nor do two answers.
func TestAnswersShareNothing(t *testing.T) {
	b, want := rich()
	one, _ := ip.Parse(b)
	two, _ := ip.Parse(b)
	_ = append(one.Opts, 0xee, 0xee, 0xee, 0xee)
	if !samePacket(one, want) {
		t.Errorf("the body lies behind the options: %x", one)
	}
	_ = append(one.Body, bytes.Repeat([]byte{0xee}, 16)...)
	if !samePacket(one, want) {
		t.Errorf("the options lie behind the body: %x", one)
	}
	clear(one.Opts[:cap(one.Opts)])
	clear(one.Body[:cap(one.Body)])
	if !samePacket(two, want) {
		t.Errorf("Parse: %x", two)
	}
	first, _ := ip.Bytes(want)
	second, _ := ip.Bytes(want)
	clear(first)
	if !bytes.Equal(second, b) {
		t.Errorf("Bytes: % x", second)
	}
}

// DOC.md, what holds everywhere, 3: Bytes leaves the packet, and the room behind its lists, as they were; its answer is memory of its own.
func TestBytesSharesNothing(t *testing.T) {
	want, p := rich()
	opts := append(bytes.Clone(p.Opts), 0x41, 0x42, 0x43)
	body := append(bytes.Clone(p.Body), 0x44, 0x45, 0x46)
	optsBefore, bodyBefore := bytes.Clone(opts), bytes.Clone(body)
	p.Opts, p.Body = opts[:len(p.Opts)], body[:len(p.Body)]
	b, _ := ip.Bytes(p)
	clear(b)
	_ = append(b, 0xee)
	if !bytes.Equal(opts, optsBefore) || !bytes.Equal(body, bodyBefore) {
		t.Errorf("changed: % x, % x", opts, body)
	}
	kept, _ := ip.Bytes(p)
	clear(opts)
	clear(body)
	if !bytes.Equal(kept, want) {
		t.Errorf("an answer is changed by its packet: % x", kept)
	}
}
