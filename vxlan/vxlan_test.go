package vxlan_test

import (
	"bytes"
	"math/rand/v2"
	"testing"

	"lych/api"
	"lych/vxlan"
)

// most is how many bytes of a body the longest tunnel's bytes have.
const most = 1592

func random(seed uint64) *rand.Rand { return rand.New(rand.NewPCG(seed, 7)) }

func randomBytes(r *rand.Rand, n int) []byte {
	b := make([]byte, n)
	for i := range b {
		b[i] = byte(r.Uint32())
	}
	return b
}

// known is a tunnel's bytes, each of them told by hand: a swapped or shifted part shows.
func known() ([]byte, uint32, []byte) {
	b := []byte{
		0x08, 0x00, 0x00, 0x00,
		0x21, 0x22, 0x23, 0x00,
		0xa1, 0xa2, 0xa3,
	}
	return b, 0x212223, []byte{0xa1, 0xa2, 0xa3}
}

// header is the 8 bytes of a network, told without the program.
func header(vni uint32) []byte {
	return []byte{8, 0, 0, 0, byte(vni / 65536), byte(vni / 256 % 256), byte(vni % 256), 0}
}

// wantRead holds Parse to a network and a body.
func wantRead(t *testing.T, b []byte, vni uint32, body []byte) {
	t.Helper()
	if n, got, err := vxlan.Parse(b); err != api.OK || n != vni || !bytes.Equal(got, body) {
		t.Fatalf("Parse(% x) = %x, % x, %v; want %x, % x", b, n, got, err, vni, body)
	}
}

// wantUnread holds Parse to an error, and to nothing beside it.
func wantUnread(t *testing.T, b []byte, want api.Errno) {
	t.Helper()
	if n, got, err := vxlan.Parse(b); err != want || n != 0 || len(got) != 0 {
		t.Fatalf("Parse(% x) = %x, % x, %v; want %v", b, n, got, err, want)
	}
}

// wantWritten holds Bytes to the bytes of a network and a body.
func wantWritten(t *testing.T, vni uint32, body []byte) {
	t.Helper()
	want := append(header(vni), body...)
	if got, err := vxlan.Bytes(vni, body); err != api.OK || !bytes.Equal(got, want) {
		t.Fatalf("Bytes(%x, % x) = % x, %v", vni, body, got, err)
	}
}

// wantUnwritten holds Bytes to an error, and to nothing beside it.
func wantUnwritten(t *testing.T, vni uint32, body []byte, want api.Errno) {
	t.Helper()
	if got, err := vxlan.Bytes(vni, body); err != want || len(got) != 0 {
		t.Fatalf("Bytes(%x, %d bytes) = % x, %v; want %v", vni, len(body), got, err, want)
	}
}

// P7.1: each part is read from its place, with and without a body.
func TestParse(t *testing.T) {
	b, vni, body := known()
	wantRead(t, b, vni, body)
	wantRead(t, b[:8:8], vni, nil)
	wantRead(t, b[:9:9], vni, body[:1])
}

// P7.1: each part is written at its place, with and without a body.
func TestBytes(t *testing.T) {
	want, vni, body := known()
	if got, err := vxlan.Bytes(vni, body); err != api.OK || !bytes.Equal(got, want) {
		t.Errorf("Bytes(%x, % x) = % x, %v", vni, body, got, err)
	}
	for _, none := range [][]byte{nil, {}} {
		if got, err := vxlan.Bytes(vni, none); err != api.OK || !bytes.Equal(got, want[:8]) {
			t.Errorf("without a body: % x, %v", got, err)
		}
	}
}

// P7.1: the chapter's example, read and written.
func TestExample(t *testing.T) {
	b := []byte{0x08, 0x00, 0x00, 0x00, 0x00, 0x00, 0x05, 0x00}
	wantRead(t, b, 5, nil)
	if got, err := vxlan.Bytes(5, nil); err != api.OK || !bytes.Equal(got, b) {
		t.Errorf("Bytes: % x, %v", got, err)
	}
}

// P7.1: fewer than 8 bytes are too few, whatever they are; 8 are enough.
func TestParseFewBytes(t *testing.T) {
	wantUnread(t, nil, api.ErrShort)
	wantUnread(t, []byte{}, api.ErrShort)
	long, _, _ := known()
	for _, b := range [][]byte{long[:8:8], header(0), bytes.Repeat([]byte{0xff}, 8)} {
		for n := range 8 {
			wantUnread(t, b[:n:n], api.ErrShort)
		}
		if n, body, err := vxlan.Parse(b); err != api.OK || n>>16 != uint32(b[4]) || len(body) != 0 {
			t.Errorf("% x: %x, % x, %v", b, n, body, err)
		}
	}
}

// P7.1: where bytes are too few and the bit isn't set either, they are too few.
func TestParseShortComesFirst(t *testing.T) {
	for first := range 256 {
		b := []byte{byte(first), 0, 0, 0, 1, 2, 3, 0}
		for n := range 8 {
			wantUnread(t, b[:n:n], api.ErrShort)
		}
	}
}

// P7.1: of each of the 256 first bytes, bit 8 alone decides, at 8 bytes and with a body.
func TestParseEachFirstByte(t *testing.T) {
	b, vni, body := known()
	for first := range 256 {
		b[0] = byte(first)
		if first/8%2 == 1 {
			wantRead(t, b, vni, body)
			wantRead(t, b[:8:8], vni, nil)
			continue
		}
		wantUnread(t, b, api.ErrForm)
		wantUnread(t, b[:8:8], api.ErrForm)
	}
}

// P7.1: no bit elsewhere stands in for the first byte's.
func TestParseNoOtherBit(t *testing.T) {
	for at := 1; at < 12; at++ {
		b := make([]byte, 12)
		b[at] = 0x08
		wantUnread(t, b, api.ErrForm)
		b[at] = 0xff
		wantUnread(t, b, api.ErrForm)
	}
	b := bytes.Repeat([]byte{0xff}, 12)
	b[0] = 0xf7
	wantUnread(t, b, api.ErrForm)
}

// P7.1: bytes 1 to 3 and 7 say nothing when they are read: each value of each, and all at once.
func TestParseSilentBytes(t *testing.T) {
	for _, at := range []int{1, 2, 3, 7} {
		b, vni, body := known()
		for x := range 256 {
			b[at] = byte(x)
			wantRead(t, b, vni, body)
		}
	}
	r := random(3)
	b, vni, body := known()
	for range 5000 {
		b[0] = byte(r.Uint32()) | 0x08
		b[1], b[2], b[3], b[7] = byte(r.Uint32()), byte(r.Uint32()), byte(r.Uint32()), byte(r.Uint32())
		wantRead(t, b, vni, body)
		b[0] &^= 0x08
		wantUnread(t, b, api.ErrForm)
	}
}

// P7.1: what said nothing is not written again: the same network and body have one row of bytes.
func TestSilentBytesAreWrittenAsNoughts(t *testing.T) {
	want, _, _ := known()
	b := bytes.Clone(want)
	b[0], b[1], b[2], b[3], b[7] = 0xff, 0x11, 0x12, 0x13, 0x14
	vni, body, err := vxlan.Parse(b)
	if err != api.OK {
		t.Fatal(err)
	}
	if got, err := vxlan.Bytes(vni, body); err != api.OK || !bytes.Equal(got, want) {
		t.Errorf("% x, %v", got, err)
	}
}

// P7.1: one bit of bytes 4 to 6 is one bit of the network, one behind the 8th is one of the body, read and written.
func TestEachBit(t *testing.T) {
	for i := range 24 {
		b := header(0)
		b[4+i/8] = 0x80 >> (i % 8)
		vni := uint32(1) << (23 - i)
		wantRead(t, b, vni, nil)
		if got, err := vxlan.Bytes(vni, nil); err != api.OK || !bytes.Equal(got, b) {
			t.Errorf("bit %d: % x, %v", i, got, err)
		}
	}
	for i := range 24 {
		body := make([]byte, 3)
		body[i/8] = 0x80 >> (i % 8)
		wantRead(t, append(header(5), body...), 5, body)
		wantWritten(t, 5, body)
	}
}

// P7.1: Parse names no length as too long: all that stands behind 8 bytes is the body.
func TestParseLong(t *testing.T) {
	r := random(5)
	for _, n := range []int{most - 1, most, most + 1, 1600, 1601, 65535, 65536, 1 << 20} {
		body := randomBytes(r, n)
		wantRead(t, append(header(0xabcdef), body...), 0xabcdef, body)
	}
}

// P7.1: networks up to ffffff may be written, those above are of another form, whatever their lower bytes.
func TestBytesNetworks(t *testing.T) {
	_, _, body := known()
	for _, vni := range []uint32{0, 1, 0xff, 0x100, 0xffff, 0x10000, 0xfffffe, 0xffffff} {
		wantWritten(t, vni, body)
		wantWritten(t, vni, nil)
	}
	for _, vni := range []uint32{0x1000000, 0x1000001, 0x1000005, 0x1ffffff, 0x2000000, 0x7fffffff, 0x80000000, 0x80000005, 0xff000000, 0xffffffff} {
		wantUnwritten(t, vni, body, api.ErrForm)
		wantUnwritten(t, vni, nil, api.ErrForm)
	}
}

// P7.1: bytes of MaxFrame in all may be written, of one more they are too many.
func TestBytesLongest(t *testing.T) {
	r := random(7)
	if most+8 != api.MaxFrame {
		t.Fatal(api.MaxFrame)
	}
	for _, vni := range []uint32{0, 5, 0xffffff} {
		for _, n := range []int{most - 2, most - 1, most} {
			wantWritten(t, vni, randomBytes(r, n))
		}
		for _, n := range []int{most + 1, most + 2, most + 7, 1600, 1601, 65528, 65536, 1 << 20} {
			wantUnwritten(t, vni, randomBytes(r, n), api.ErrBig)
		}
	}
}

// P7.1: where a network is above ffffff and the bytes are too many, the form comes first.
func TestBytesFormComesFirst(t *testing.T) {
	for _, vni := range []uint32{0x1000000, 0xffffffff} {
		for _, n := range []int{0, most, most + 1, 1601, 1 << 20} {
			wantUnwritten(t, vni, make([]byte, n), api.ErrForm)
		}
	}
	wantUnwritten(t, 0xffffff, make([]byte, most+1), api.ErrBig)
}

// P7.2: what is written of a network is read as it was, at every length.
func TestWrittenThenRead(t *testing.T) {
	r := random(11)
	for n := range most + 1 {
		for _, vni := range []uint32{0, 0xffffff, r.Uint32() >> 8} {
			body := randomBytes(r, n)
			b, err := vxlan.Bytes(vni, body)
			if err != api.OK || len(b) != 8+n {
				t.Fatalf("%x, a body of %d: %d bytes, %v", vni, n, len(b), err)
			}
			wantRead(t, b, vni, body)
		}
	}
}

// P7.2: no two networks' bytes are read as one's: each of the networks of each byte comes back.
func TestEachNetwork(t *testing.T) {
	body := []byte{0x08, 0, 0, 0, 1, 2, 3, 0}
	for x := range uint32(1 << 16) {
		for _, vni := range []uint32{x, x << 8, x<<8&0xff0000 | x&0xff, 0xff0000 | x} {
			b, err := vxlan.Bytes(vni, body)
			if err != api.OK {
				t.Fatalf("%x: %v", vni, err)
			}
			wantRead(t, b, vni, body)
		}
	}
}

// P7.2: a body is read as it was, also where it looks like a tunnel's bytes itself, or like noughts or ones.
func TestBodiesSayNothing(t *testing.T) {
	inner, _, _ := known()
	twice, _ := vxlan.Bytes(9, inner)
	for _, body := range [][]byte{inner, twice, make([]byte, 60), bytes.Repeat([]byte{0xff}, 60), {0}, {8}, {0xff}} {
		b, err := vxlan.Bytes(5, body)
		if err != api.OK {
			t.Fatal(err)
		}
		wantRead(t, b, 5, body)
	}
}

// P7.2: what is read in the form that Bytes writes is written as it was.
func TestReadThenWritten(t *testing.T) {
	r := random(13)
	for range 20000 {
		b := append(header(r.Uint32()>>8), randomBytes(r, r.IntN(60))...)
		vni, body, err := vxlan.Parse(b)
		if err != api.OK {
			t.Fatalf("% x: %v", b, err)
		}
		if got, err := vxlan.Bytes(vni, body); err != api.OK || !bytes.Equal(got, b) {
			t.Fatalf("% x: % x, %v", b, got, err)
		}
	}
}

// DOC.md, what holds everywhere, 1: no bytes make a call panic, and each of them is answered by the two rules alone.
func TestAnyBytes(t *testing.T) {
	r := random(17)
	for range 100000 {
		b := randomBytes(r, r.IntN(30))
		switch {
		case len(b) < 8:
			wantUnread(t, b, api.ErrShort)
		case b[0]/8%2 == 0:
			wantUnread(t, b, api.ErrForm)
		default:
			wantRead(t, b, uint32(b[4])*65536+uint32(b[5])*256+uint32(b[6]), b[8:])
		}
	}
}

// DOC.md, what holds everywhere, 3: spare room makes no short row a tunnel's, and is neither read nor written.
func TestSpareRoomSaysNothing(t *testing.T) {
	b, vni, body := known()
	for n := range 8 {
		wantUnread(t, b[:n], api.ErrShort)
	}
	wantRead(t, b[:8], vni, nil)
	wantRead(t, b[:9], vni, body[:1])
	row := append(bytes.Clone(body), bytes.Repeat([]byte{0xaa}, 3000)...)
	wantWritten(t, vni, row[:3])
	wantWritten(t, vni, row[:0])
	wantWritten(t, vni, row[:most])
}

// spoil writes over a list, and over all its room.
func spoil(list []byte) {
	_ = append(list, 0xee)
	list = list[:cap(list)]
	for i := range list {
		list[i] ^= 0xff
	}
}

// DOC.md, what holds everywhere, 3: Parse leaves its bytes, and the room behind them, as they were; its answer is memory of its own.
func TestParseSharesNothing(t *testing.T) {
	first, vni, want := known()
	row := append(bytes.Clone(first), 0x41, 0x42, 0x43)
	before := bytes.Clone(row)
	for n := range len(row) + 1 {
		for _, flags := range []byte{0x08, 0xf7} {
			row[0], before[0] = flags, flags
			_, body, _ := vxlan.Parse(row[:n])
			if !bytes.Equal(row, before) {
				t.Fatalf("changed by reading: % x", row)
			}
			spoil(body)
			if !bytes.Equal(row, before) {
				t.Fatalf("changed by its answer: % x", row)
			}
		}
	}
	row[0] = 0x08
	n, kept, err := vxlan.Parse(row[:len(first)])
	clear(row)
	if err != api.OK || n != vni || !bytes.Equal(kept, want) {
		t.Errorf("an answer is changed by its bytes: %x, % x, %v", n, kept, err)
	}
}

// DOC.md, what holds everywhere, 3: Bytes leaves the body, and the room behind it, as they were; its answer is memory of its own.
func TestBytesSharesNothing(t *testing.T) {
	want, vni, body := known()
	row := append(bytes.Clone(body), bytes.Repeat([]byte{0x41}, 2000)...)
	before := bytes.Clone(row)
	for _, n := range []int{0, 1, 3, most, most + 1} {
		for _, net := range []uint32{vni, 0x1000000} {
			b, _ := vxlan.Bytes(net, row[:n])
			if !bytes.Equal(row, before) {
				t.Fatalf("a body of %d: changed by writing", n)
			}
			spoil(b)
			if !bytes.Equal(row, before) {
				t.Fatalf("a body of %d: changed by its answer", n)
			}
		}
	}
	kept, _ := vxlan.Bytes(vni, row[:3])
	clear(row)
	if !bytes.Equal(kept, want) {
		t.Errorf("an answer is changed by its body: % x", kept)
	}
}

// DOC.md, what holds everywhere, 3: two answers of the same share nothing.
func TestAnswersShareNothing(t *testing.T) {
	b, vni, body := known()
	_, one, _ := vxlan.Parse(b)
	_, two, _ := vxlan.Parse(b)
	spoil(one)
	if !bytes.Equal(two, body) {
		t.Errorf("Parse: % x", two)
	}
	first, _ := vxlan.Bytes(vni, body)
	second, _ := vxlan.Bytes(vni, body)
	spoil(first)
	if !bytes.Equal(second, b) {
		t.Errorf("Bytes: % x", second)
	}
}

// DOC.md, what holds everywhere, 8: what is answered hangs on nothing that was asked ahead of it.
func TestNothingIsKept(t *testing.T) {
	b, vni, body := known()
	for _, ahead := range [][]byte{nil, make([]byte, 7), make([]byte, 8), bytes.Repeat([]byte{0xff}, 90), make([]byte, 2000)} {
		vxlan.Parse(ahead)
		vxlan.Bytes(0xffffff, ahead)
		vxlan.Bytes(0x1000000, ahead)
		wantRead(t, b, vni, body)
		wantWritten(t, vni, body)
	}
}
