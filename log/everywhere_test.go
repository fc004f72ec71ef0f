package log_test

import (
	"bytes"
	"testing"

	"lych/disk"
	"lych/log"
)

// wantOneOf holds what Open finds in a spoilt store to records that were appended, whole and in order, and tells how many of them are left.
func wantOneOf(t *testing.T, d *disk.Disk, all [][]byte) (*log.Log, [][]byte) {
	t.Helper()
	l, _ := open(t, d)
	if l.Records() < 0 || l.Records() > len(all) {
		t.Fatalf("%d of %d records", l.Records(), len(all))
	}
	all = all[:l.Records()]
	return wantFound(t, d, all), all
}

// P10.2: a block that was spoilt, at each byte: Open finds a record that was appended, whole, and the log goes on.
func TestSpoilt(t *testing.T) {
	for _, records := range []int{0, 1, 2, 7} {
		d, all := grown(t, 6, 256, records)
		for i := range 6 {
			for at := range 256 {
				for _, x := range []byte{1, 0x80, 0xa5, 0xff} {
					c := d.Copy()
					c.Spoil(i, at, x)
					l, left := wantOneOf(t, c, all)
					if len(left) < len(all)-1 {
						t.Fatalf("block %d, byte %d: %d of %d records", i, at, len(left), len(all))
					}
					if at%16 == 0 {
						wantGoesOn(t, c, l, left)
					}
				}
			}
		}
	}
}

// P10.2: a log whose blocks are spoilt while it is open goes on, and counts on.
func TestSpoiltWhileOpen(t *testing.T) {
	r := random(13)
	for range 200 {
		d, all := grown(t, 8, 256, r.IntN(4))
		l, _ := open(t, d)
		for range 1 + r.IntN(20) {
			d.Spoil(r.IntN(8), r.IntN(256), byte(r.Uint32()))
		}
		wantTold(t, l, all)
		wantGoesOn(t, d, l, all)
	}
}

// P10.3: a store that was spoilt and fails, again and again: Open finds records that were appended, or failed, whole.
func TestSpoiltAndCut(t *testing.T) {
	r := random(14)
	for range 2000 {
		d, all := grown(t, 6, 256, r.IntN(4))
		for range 4 {
			d.Spoil(r.IntN(6), r.IntN(256), byte(r.Uint32()))
			l, left := wantOneOf(t, d, all)
			b := randomBytes(r, r.IntN(log.Room(d)+1))
			d.Cut(r.IntN(4), edges(256)[r.IntN(24)])
			l.Append(b)
			d.Power()
			_, all = wantEither(t, d, left, b)
		}
	}
}

// DOC.md, what holds everywhere, 1: of stores with anything in them Open and Append end, and a log goes on from there.
func TestAnythingInTheStore(t *testing.T) {
	r := random(15)
	for range 1000 {
		d, _ := grown(t, 6, 256, r.IntN(4))
		for range 1 + r.IntN(6) {
			b := randomBytes(r, 256)
			if r.IntN(2) == 0 {
				b, _ = d.Read(r.IntN(6))
			}
			d.Write(r.IntN(6), b)
		}
		l, recs := open(t, d)
		if len(recs) > 0 && !bytes.Equal(recs[len(recs)-1], l.Last()) {
			t.Fatalf("kept % .20x, last % .20x", recs[len(recs)-1], l.Last())
		}
		for n := range 3 {
			count, b := l.Records(), randomBytes(r, n*log.Room(d)/2)
			if err := l.Append(b); err != 0 || l.Records() != count+1 {
				t.Fatalf("%v, %d records, were %d", err, l.Records(), count)
			}
			if again, _ := open(t, d); again.Records() != count+1 || !bytes.Equal(again.Last(), b) {
				t.Fatalf("%d records, were %d; % .20x", again.Records(), count, again.Last())
			}
		}
	}
}

// DOC.md, what holds everywhere, 3: Append neither changes nor keeps what it is handed, nor the room behind it.
func TestAppendKeepsNothing(t *testing.T) {
	d := disk.New(6, 256)
	l, _ := open(t, d)
	var all [][]byte
	for _, n := range []int{0, 1, 100, log.Room(d)} {
		whole := bytes.Repeat([]byte{7}, n+300)
		all = wantAppended(t, l, all, whole[100:100+n])
		if !bytes.Equal(whole, bytes.Repeat([]byte{7}, n+300)) {
			t.Fatalf("changed: % x", whole)
		}
		clear(whole)
		wantTold(t, l, all)
		wantFound(t, d, all)
	}
	whole := bytes.Repeat([]byte{7}, 300)
	d.Cut(1, 100)
	l.Append(whole[:100])
	d.Power()
	wantAppended(t, l, all, whole[:200])
	if !bytes.Equal(whole, bytes.Repeat([]byte{7}, 300)) {
		t.Fatalf("changed: % x", whole)
	}
}

// DOC.md, what holds everywhere, 3: Sum changes nothing.
func TestSumChangesNothing(t *testing.T) {
	b := bytes.Repeat([]byte{7}, 100)
	log.Sum(b[10:50])
	if !bytes.Equal(b, bytes.Repeat([]byte{7}, 100)) {
		t.Errorf("% x", b)
	}
}

// DOC.md, what holds everywhere, 3: what Open and Last answer shares no memory with the log, the store or one another.
func TestAnswersShareNothing(t *testing.T) {
	d, all := grown(t, 6, 256, 5)
	l, recs := open(t, d)
	for _, b := range recs {
		clear(b[:cap(b)])
	}
	wantTold(t, l, all)
	l, recs = open(t, d)
	recs = append(recs, l.Last(), l.Last())
	for i, b := range recs {
		was := bytes.Clone(b)
		for k, other := range recs {
			if k != i {
				clear(other[:cap(other)])
			}
		}
		if !bytes.Equal(b, was) {
			t.Fatalf("answer %d shares memory", i)
		}
		wantTold(t, l, all)
		wantFound(t, d, all)
		l, recs = open(t, d)
		recs = append(recs, l.Last(), l.Last())
	}
	last := l.Last()
	was := bytes.Clone(last)
	wantGoesOn(t, d, l, all)
	if !bytes.Equal(last, was) {
		t.Error("an Append changed an answer")
	}
}

// DOC.md, what holds everywhere, 8: logs of two stores, one a copy of the other, have nothing in common.
func TestStoresAreApart(t *testing.T) {
	d, all := grown(t, 5, 256, 3)
	c := d.Copy()
	one, _ := open(t, d)
	two, _ := open(t, c)
	more := wantAppended(t, one, all, []byte("one"))
	wantTold(t, two, all)
	wantFound(t, c, all)
	wantFound(t, c, wantAppended(t, two, all, []byte("two")))
	wantFound(t, d, more)
}

// P10.2 and P10.4: two logs of one store, each appending in its turn: Open finds the last one, and Records counts all.
func TestTwoLogsOfOneStore(t *testing.T) {
	r := random(16)
	for range 100 {
		d, all := grown(t, 6, 256, r.IntN(3))
		one, _ := open(t, d)
		two, _ := open(t, d)
		for range 20 {
			if r.IntN(2) == 0 {
				one, two = two, one
			}
			all = wantAppended(t, one, all, randomBytes(r, r.IntN(log.Room(d)+1)))
			wantFound(t, d, all)
		}
	}
}
