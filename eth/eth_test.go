package eth_test

import (
	"bytes"
	"math/rand/v2"
	"reflect"
	"testing"

	"lych/api"
	"lych/eth"
)

func random(seed uint64) *rand.Rand { return rand.New(rand.NewPCG(seed, 2)) }

func randomBytes(r *rand.Rand, n int) []byte {
	b := make([]byte, n)
	for i := range b {
		b[i] = byte(r.Uint32())
	}
	return b
}

// sameFrame tells whether two frames are alike, no body and an empty one being one.
func sameFrame(a, b api.Eth) bool {
	return a.Dst == b.Dst && a.Src == b.Src && a.Type == b.Type && bytes.Equal(a.Body, b.Body)
}

// isNought tells whether nothing at all stands in e.
func isNought(e api.Eth) bool { return sameFrame(e, api.Eth{}) }

// known is a frame each of whose bytes is told by hand: a swapped or shifted part shows.
func known() ([]byte, api.Eth) {
	b := []byte{
		0x02, 0x11, 0x12, 0x13, 0x14, 0x15,
		0x04, 0x21, 0x22, 0x23, 0x24, 0x25,
		0x08, 0x06,
		0x31, 0x32, 0x33,
	}
	e := api.Eth{
		Dst:  api.Mac{0x02, 0x11, 0x12, 0x13, 0x14, 0x15},
		Src:  api.Mac{0x04, 0x21, 0x22, 0x23, 0x24, 0x25},
		Type: 0x0806,
		Body: []byte{0x31, 0x32, 0x33},
	}
	return b, e
}

// P2.1: each part is read from its place.
func TestParse(t *testing.T) {
	b, want := known()
	if got, err := eth.Parse(b); err != api.OK || !sameFrame(got, want) {
		t.Errorf("Parse(% x) = %x, %v", b, got, err)
	}
}

// P2.1: each part is written at its place.
func TestBytes(t *testing.T) {
	want, e := known()
	if got, err := eth.Bytes(e); err != api.OK || !bytes.Equal(got, want) {
		t.Errorf("Bytes(%x) = % x, %v", e, got, err)
	}
}

// P2.1: the chapter's example: 14 noughts are Type 0, no body.
func TestExample(t *testing.T) {
	got, err := eth.Parse(make([]byte, 14))
	if err != api.OK || !isNought(got) {
		t.Errorf("Parse: %x, %v", got, err)
	}
	b, err := eth.Bytes(api.Eth{})
	if err != api.OK || !bytes.Equal(b, make([]byte, 14)) {
		t.Errorf("Bytes: % x, %v", b, err)
	}
}

// P2.1: Parse at each length about its two bounds; an error comes with nothing beside it.
func TestParseBounds(t *testing.T) {
	r := random(3)
	for _, c := range []struct {
		n    int
		want api.Errno
	}{
		{0, api.ErrShort}, {1, api.ErrShort}, {6, api.ErrShort}, {12, api.ErrShort}, {13, api.ErrShort},
		{14, api.OK}, {15, api.OK}, {60, api.OK}, {1599, api.OK}, {1600, api.OK},
		{1601, api.ErrBig}, {1602, api.ErrBig}, {3200, api.ErrBig}, {1 << 20, api.ErrBig},
	} {
		b := randomBytes(r, c.n)
		got, err := eth.Parse(b)
		if err != c.want {
			t.Errorf("%d bytes: %v, want %v", c.n, err, c.want)
			continue
		}
		if err != api.OK && !isNought(got) {
			t.Errorf("%d bytes: beside %v: %x", c.n, err, got)
		}
		if err == api.OK && len(got.Body) != c.n-14 {
			t.Errorf("%d bytes: a body of %d", c.n, len(got.Body))
		}
	}
}

// P2.1: no bytes, nil or empty, are too few.
func TestParseNothing(t *testing.T) {
	for _, b := range [][]byte{nil, {}} {
		if got, err := eth.Parse(b); err != api.ErrShort || !isNought(got) {
			t.Errorf("%x, %v", got, err)
		}
	}
}

// P2.1: Bytes at each body about its bound; an error comes with nothing beside it.
func TestBytesBounds(t *testing.T) {
	r := random(5)
	for _, c := range []struct {
		n    int
		want api.Errno
	}{
		{0, api.OK}, {1, api.OK}, {1585, api.OK}, {1586, api.OK},
		{1587, api.ErrBig}, {1588, api.ErrBig}, {1600, api.ErrBig}, {1601, api.ErrBig}, {1 << 20, api.ErrBig},
	} {
		body := randomBytes(r, c.n)
		got, err := eth.Bytes(api.Eth{Type: 0x0800, Body: body})
		if err != c.want {
			t.Errorf("a body of %d: %v, want %v", c.n, err, c.want)
			continue
		}
		if err != api.OK && len(got) != 0 {
			t.Errorf("a body of %d: beside %v: %d bytes", c.n, err, len(got))
		}
		if err == api.OK && (len(got) != 14+c.n || !bytes.Equal(got[14:], body)) {
			t.Errorf("a body of %d: % x", c.n, got)
		}
	}
}

// P2.1: no body, nil or empty, is the same frame.
func TestBytesNoBody(t *testing.T) {
	_, e := known()
	want, _ := known()
	for _, body := range [][]byte{nil, {}} {
		e.Body = body
		if got, err := eth.Bytes(e); err != api.OK || !bytes.Equal(got, want[:14]) {
			t.Errorf("% x, %v", got, err)
		}
	}
}

// P2.1: what is read is written as it was, at every length that a frame may have.
func TestReadThenWritten(t *testing.T) {
	r := random(7)
	for n := 14; n <= api.MaxFrame; n++ {
		b := randomBytes(r, n)
		e, err := eth.Parse(b)
		if err != api.OK {
			t.Fatalf("%d bytes: %v", n, err)
		}
		if got, err := eth.Bytes(e); err != api.OK || !bytes.Equal(got, b) {
			t.Fatalf("% x: % x, %v", b, got, err)
		}
	}
}

// P2.1: what is written is read as it was.
func TestWrittenThenRead(t *testing.T) {
	r := random(11)
	for n := 0; n <= api.MaxFrame-14; n++ {
		e := api.Eth{Type: uint16(r.Uint32()), Body: randomBytes(r, n)}
		copy(e.Dst[:], randomBytes(r, 6))
		copy(e.Src[:], randomBytes(r, 6))
		b, err := eth.Bytes(e)
		if err != api.OK {
			t.Fatalf("a body of %d: %v", n, err)
		}
		if got, err := eth.Parse(b); err != api.OK || !sameFrame(got, e) {
			t.Fatalf("%x: %x, %v", e, got, err)
		}
	}
}

// P2.1: Type is two bytes like others: no value of it, a length's or a tag's, changes where the body begins or ends.
func TestTypeIsOnlyRead(t *testing.T) {
	b, _ := known()
	for kind := range 1 << 16 {
		b[12], b[13] = byte(kind>>8), byte(kind)
		e, err := eth.Parse(b)
		if err != api.OK || int(e.Type) != kind || !bytes.Equal(e.Body, b[14:]) {
			t.Fatalf("Type %04x: %x, %v", kind, e, err)
		}
		if got, err := eth.Bytes(e); err != api.OK || !bytes.Equal(got, b) {
			t.Fatalf("Type %04x: % x, %v", kind, got, err)
		}
	}
}

// P2.2: a frame that is cut out of a greater row ends where it ends: what lies ahead of it and behind it is not read.
func TestOnlyItsOwnBytes(t *testing.T) {
	r := random(13)
	row := randomBytes(r, 4000)
	for range 2000 {
		from := r.IntN(1000)
		to := from + r.IntN(1700)
		b := row[from:to]
		got, err := eth.Parse(b)
		alone, aloneErr := eth.Parse(bytes.Clone(b[:len(b):len(b)]))
		if err != aloneErr || !sameFrame(got, alone) {
			t.Fatalf("%d to %d: %x, %v; alone: %x, %v", from, to, got, err, alone, aloneErr)
		}
	}
}

// P2.2: spare room makes no short row a frame, and no frame too long.
func TestSpareRoomSaysNothing(t *testing.T) {
	row := bytes.Repeat([]byte{0xaa}, 3000)
	for n := range 14 {
		if got, err := eth.Parse(row[:n]); err != api.ErrShort || !isNought(got) {
			t.Errorf("%d bytes: %x, %v", n, got, err)
		}
	}
	if got, err := eth.Parse(row[:14]); err != api.OK || len(got.Body) != 0 {
		t.Errorf("14 bytes: %x, %v", got, err)
	}
	if got, err := eth.Parse(row[:1600]); err != api.OK || len(got.Body) != 1586 {
		t.Errorf("1600 bytes: %d, %v", len(got.Body), err)
	}
	if got, err := eth.Bytes(api.Eth{Body: row[:3]}); err != api.OK || len(got) != 17 {
		t.Errorf("a body of 3: %d, %v", len(got), err)
	}
}

// P2.2: of frames that lie one behind the other, each stays what it was when another's bytes change.
func TestNeighboursStayApart(t *testing.T) {
	first, want := known()
	row := append(bytes.Clone(first), first...)
	n := len(first)
	clear(row[n:])
	if got, err := eth.Parse(row[:n]); err != api.OK || !sameFrame(got, want) {
		t.Errorf("the first: %x, %v", got, err)
	}
	copy(row[n:], first)
	clear(row[:n])
	if got, err := eth.Parse(row[n:]); err != api.OK || !sameFrame(got, want) {
		t.Errorf("the second: %x, %v", got, err)
	}
}

// P2.2: a frame hangs on nothing that was read ahead of it.
func TestNothingIsKept(t *testing.T) {
	b, want := known()
	for _, ahead := range [][]byte{nil, make([]byte, 13), bytes.Repeat([]byte{0xff}, 1600), bytes.Repeat([]byte{0xff}, 1601)} {
		eth.Parse(ahead)
		if got, err := eth.Parse(b); err != api.OK || !sameFrame(got, want) {
			t.Errorf("behind %d bytes: %x, %v", len(ahead), got, err)
		}
	}
}

// DOC.md, what holds everywhere, 3: Parse leaves its bytes, and the room behind them, as they were; its answer is memory of its own.
func TestParseSharesNothing(t *testing.T) {
	first, want := known()
	row := append(bytes.Clone(first), 0x41, 0x42, 0x43)
	before := bytes.Clone(row)
	b := row[:len(first)]
	e, _ := eth.Parse(b)
	if !bytes.Equal(row, before) {
		t.Fatalf("changed by reading: % x", row)
	}
	e.Body[0]++
	e.Body = append(e.Body, 0xee)
	if !bytes.Equal(row, before) {
		t.Errorf("changed by its answer: % x", row)
	}
	kept, _ := eth.Parse(b)
	clear(row)
	if !sameFrame(kept, want) {
		t.Errorf("an answer is changed by its bytes: %x", kept)
	}
}

// DOC.md, what holds everywhere, 3: Bytes leaves the frame, and the room behind its body, as they were; its answer is memory of its own.
func TestBytesSharesNothing(t *testing.T) {
	want, e := known()
	row := append(bytes.Clone(e.Body), 0x41, 0x42, 0x43)
	before := bytes.Clone(row)
	e.Body = row[:len(e.Body)]
	b, _ := eth.Bytes(e)
	if !bytes.Equal(row, before) {
		t.Fatalf("changed by writing: % x", row)
	}
	clear(b)
	_ = append(b, 0xee)
	if !bytes.Equal(row, before) {
		t.Errorf("changed by its answer: % x", row)
	}
	kept, _ := eth.Bytes(e)
	clear(row)
	if !bytes.Equal(kept, want) {
		t.Errorf("an answer is changed by its frame: % x", kept)
	}
}

// DOC.md, what holds everywhere, 3: two answers of the same bytes share nothing.
func TestAnswersShareNothing(t *testing.T) {
	b, want := known()
	one, _ := eth.Parse(b)
	two, _ := eth.Parse(b)
	clear(one.Body)
	if !reflect.DeepEqual(two, want) {
		t.Errorf("Parse: %x", two)
	}
	first, _ := eth.Bytes(want)
	second, _ := eth.Bytes(want)
	clear(first)
	if !bytes.Equal(second, b) {
		t.Errorf("Bytes: % x", second)
	}
}
