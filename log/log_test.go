package log_test

import (
	"bytes"
	"hash/crc32"
	"math/rand/v2"
	"testing"

	"lych/api"
	"lych/disk"
	"lych/log"
)

func random(seed uint64) *rand.Rand { return rand.New(rand.NewPCG(seed, 10)) }

func randomBytes(r *rand.Rand, n int) []byte {
	b := make([]byte, n)
	for i := range b {
		b[i] = byte(r.Uint32())
	}
	return b
}

// open holds Open to no error.
func open(t *testing.T, d *disk.Disk) (*log.Log, [][]byte) {
	t.Helper()
	l, recs, err := log.Open(d)
	if err != api.OK || l == nil {
		t.Fatalf("Open: %v", err)
	}
	return l, recs
}

// wantRefused holds Open to an error, and to nothing beside it.
func wantRefused(t *testing.T, d *disk.Disk, want api.Errno) {
	t.Helper()
	if l, recs, err := log.Open(d); err != want || l != nil || len(recs) != 0 {
		t.Fatalf("Open: %v, %d records, %v; want %v", l, len(recs), err, want)
	}
}

// wantTold holds Records and Last to what was appended.
func wantTold(t *testing.T, l *log.Log, all [][]byte) {
	t.Helper()
	var last []byte
	if len(all) > 0 {
		last = all[len(all)-1]
	}
	if l.Records() != len(all) || !bytes.Equal(l.Last(), last) {
		t.Fatalf("%d records, the last one of %d bytes % .20x; want %d, %d bytes % .20x", l.Records(), len(l.Last()), l.Last(), len(all), len(last), last)
	}
}

// wantFound holds what an Open finds to what was appended: the last ones in order, one at least.
func wantFound(t *testing.T, d *disk.Disk, all [][]byte) *log.Log {
	t.Helper()
	l, recs := open(t, d)
	wantTold(t, l, all)
	if len(recs) > len(all) || len(recs) == 0 && len(all) > 0 {
		t.Fatalf("%d of %d records are kept", len(recs), len(all))
	}
	for i, b := range all[len(all)-len(recs):] {
		if !bytes.Equal(recs[i], b) {
			t.Fatalf("of %d kept, number %d: % .20x; want % .20x", len(recs), i, recs[i], b)
		}
	}
	return l
}

// wantAppended holds Append to no error, and tells what was appended with it.
func wantAppended(t *testing.T, l *log.Log, all [][]byte, b []byte) [][]byte {
	t.Helper()
	if err := l.Append(b); err != api.OK {
		t.Fatalf("Append of %d bytes: %v", len(b), err)
	}
	all = append(all[:len(all):len(all)], bytes.Clone(b))
	wantTold(t, l, all)
	return all
}

// wantUnappended holds Append to an error, and the log to what it told before.
func wantUnappended(t *testing.T, l *log.Log, all [][]byte, b []byte, want api.Errno) {
	t.Helper()
	if err := l.Append(b); err != want {
		t.Fatalf("Append of %d bytes: %v; want %v", len(b), err, want)
	}
	wantTold(t, l, all)
}

// fail takes a store's power away and leaves its blocks as they are.
func fail(d *disk.Disk) {
	d.Cut(0, 0)
	d.Write(0, make([]byte, d.Size()))
}

// The limit and the errors' numbers, as the chapter tells them.
func TestNumbers(t *testing.T) {
	if api.MaxRecord != 16384 || api.ErrLogRoom != 50 || api.ErrLogSize != 51 {
		t.Error(api.MaxRecord, api.ErrLogRoom, api.ErrLogSize)
	}
}

// P10.2: the chapter's example.
func TestExample(t *testing.T) {
	d := disk.New(4, 256)
	l, _ := open(t, d)
	all := wantAppended(t, l, nil, []byte("x"))
	wantFound(t, d, all)
}

// P10.1: sums that are known.
func TestSumKnown(t *testing.T) {
	rows := []struct {
		b    string
		want uint32
	}{
		{"", 0}, {"\x00", 0xd202ef8d}, {"a", 0xe8b7be43}, {"\xff", 0xff000000}, {"\x00\x00\x00\x00", 0x2144df1c},
		{"\xff\xff\xff\xff", 0xffffffff}, {"123456789", 0xcbf43926}, {"The quick brown fox jumps over the lazy dog", 0x414fa339},
	}
	for _, row := range rows {
		if got := log.Sum([]byte(row.b)); got != row.want {
			t.Errorf("Sum(%q) = %x; want %x", row.b, got, row.want)
		}
	}
	if got := log.Sum(nil); got != 0 {
		t.Errorf("Sum(nil) = %x", got)
	}
}

// P10.1: sums of each byte alone and of lists of any length; a changed byte, wherever, gives another sum.
func TestSum(t *testing.T) {
	r := random(1)
	for x := range 256 {
		if b := []byte{byte(x)}; log.Sum(b) != crc32.ChecksumIEEE(b) {
			t.Fatalf("Sum(% x) = %x", b, log.Sum(b))
		}
	}
	for n := range 300 {
		b := randomBytes(r, n)
		sum := log.Sum(b)
		if sum != crc32.ChecksumIEEE(b) {
			t.Fatalf("Sum(% x) = %x", b, sum)
		}
		for i := range b {
			x := byte(1 + r.IntN(255))
			b[i] ^= x
			if log.Sum(b) == sum {
				t.Fatalf("byte %d changed: the same sum %x", i, sum)
			}
			b[i] ^= x
		}
	}
	b := randomBytes(r, 100000)
	if log.Sum(b) != crc32.ChecksumIEEE(b) {
		t.Errorf("Sum of %d bytes: %x", len(b), log.Sum(b))
	}
}

// P10.1: at least so many bytes as the promise says, at most MaxRecord; and Append takes just so many.
func TestRoom(t *testing.T) {
	for _, n := range []int{4, 5, 6, 7, 8, 9, 33, 63, 64} {
		for _, size := range []int{256, 257, 300, 511, 512, 4096, 8256, 16383, 16447, 16448, 16449, 65535, 65536} {
			d := disk.New(n, size)
			room := log.Room(d)
			if room < min((n-1)/2*(size-64), api.MaxRecord) || room > api.MaxRecord {
				t.Fatalf("%d blocks of %d bytes: %d", n, size, room)
			}
			l, _ := open(t, d)
			b := randomBytes(random(2), room+1)
			wantUnappended(t, l, nil, b, api.ErrLogSize)
			all := wantAppended(t, l, nil, b[:room])
			wantUnappended(t, l, all, b, api.ErrLogSize)
			wantFound(t, d, wantAppended(t, l, all, b[1:]))
		}
	}
}

// P10.1: Room hangs on a store's form alone, not on what is in it, nor on its power.
func TestRoomOfOneForm(t *testing.T) {
	d := disk.New(7, 300)
	room := log.Room(d)
	l, _ := open(t, d)
	all := wantAppended(t, l, nil, make([]byte, room))
	wantAppended(t, l, all, nil)
	if log.Room(d) != room {
		t.Errorf("%d, was %d", log.Room(d), room)
	}
	d.Spoil(0, 0, 0xff)
	fail(d)
	if log.Room(d) != room {
		t.Errorf("without power %d, was %d", log.Room(d), room)
	}
}

// P10.1 and P10.2: stores that are too small have no room and no log, with power or without.
func TestTooSmall(t *testing.T) {
	rows := [][2]int{{1, 64}, {1, 65536}, {2, 256}, {3, 255}, {3, 256}, {3, 65536}, {4, 64}, {4, 255}, {5, 255}, {64, 64}, {64, 255}}
	for _, row := range rows {
		d := disk.New(row[0], row[1])
		for range 2 {
			wantRefused(t, d, api.ErrLogRoom)
			if room := log.Room(d); room != 0 {
				t.Errorf("%v: room for %d", row, room)
			}
			fail(d)
		}
	}
	wantRefused(t, nil, api.ErrLogRoom)
	wantRefused(t, &disk.Disk{}, api.ErrLogRoom)
	if log.Room(nil) != 0 || log.Room(&disk.Disk{}) != 0 {
		t.Error("room in no store")
	}
}

// P10.2: a log that was never written has no record.
func TestNeverWritten(t *testing.T) {
	for _, row := range [][2]int{{4, 256}, {5, 257}, {64, 256}, {4, 65536}} {
		d := disk.New(row[0], row[1])
		for range 3 {
			wantFound(t, d, nil)
		}
	}
}

// P10.2: without power Open answers the disk's error; behind Power all is there.
func TestOpenWithoutPower(t *testing.T) {
	d := disk.New(4, 256)
	var all [][]byte
	for n := range 4 {
		fail(d)
		wantRefused(t, d, api.ErrDiskDead)
		d.Power()
		l := wantFound(t, d, all)
		all = wantAppended(t, l, all, randomBytes(random(3), n))
	}
}

// P10.2: of Append's errors the size comes first, then the disk's; neither changes the log.
func TestOrderOfErrors(t *testing.T) {
	d := disk.New(5, 256)
	room := log.Room(d)
	l, _ := open(t, d)
	var all [][]byte
	for range 3 {
		wantUnappended(t, l, all, make([]byte, room+1), api.ErrLogSize)
		wantUnappended(t, l, all, make([]byte, 10*room), api.ErrLogSize)
		wantFound(t, d, all)
		fail(d)
		for range 2 {
			wantUnappended(t, l, all, make([]byte, room+1), api.ErrLogSize)
			wantUnappended(t, l, all, make([]byte, room), api.ErrDiskDead)
			wantUnappended(t, l, all, nil, api.ErrDiskDead)
		}
		d.Power()
		wantFound(t, d, all)
		all = wantAppended(t, l, all, []byte("more"))
	}
}

// P10.2: a record that is too great writes nothing.
func TestTooGreatWritesNothing(t *testing.T) {
	d := disk.New(4, 256)
	l, _ := open(t, d)
	d.Cut(0, 0)
	wantUnappended(t, l, nil, make([]byte, log.Room(d)+1), api.ErrLogSize)
	if d.Dead() {
		t.Error("it wrote")
	}
}

// P10.2 and P10.4: many more records than there are blocks, of each length in turn, with an Open behind each; the log never runs out of room, and goes on through openings or without.
func TestManyRecords(t *testing.T) {
	r := random(4)
	for _, row := range [][2]int{{4, 256}, {5, 256}, {6, 300}, {8, 256}, {9, 257}} {
		d := disk.New(row[0], row[1])
		room := log.Room(d)
		l, _ := open(t, d)
		var all [][]byte
		for n := range room + 1 {
			all = wantAppended(t, l, all, randomBytes(r, n))
			again := wantFound(t, d, all)
			wantFound(t, d.Copy(), all)
			if r.IntN(3) == 0 {
				l = again
			}
		}
		for range 300 {
			all = wantAppended(t, l, all, randomBytes(r, []int{0, 1, room - 1, room, r.IntN(room)}[r.IntN(5)]))
			wantFound(t, d, all)
		}
	}
}

// P10.2: records of no bytes are records: they count, and the last one is of no bytes.
func TestEmptyRecords(t *testing.T) {
	d := disk.New(4, 256)
	l, _ := open(t, d)
	var all [][]byte
	for _, b := range []string{"", "", "one", "", "two", ""} {
		all = wantAppended(t, l, all, []byte(b))
		if _, recs := open(t, d); len(recs) == 0 {
			t.Fatal("none is kept")
		}
		l = wantFound(t, d, all)
	}
	if err := l.Append(nil); err != api.OK || l.Records() != 7 {
		t.Errorf("%v, %d", err, l.Records())
	}
}

// P10.2: great stores too, where a slot's room is more than a record may have.
func TestGreatStores(t *testing.T) {
	r := random(5)
	for _, row := range [][2]int{{4, 65536}, {64, 4096}, {64, 65536}, {64, 256}} {
		d := disk.New(row[0], row[1])
		room := log.Room(d)
		l, _ := open(t, d)
		var all [][]byte
		for _, n := range []int{room, 0, room - 1, room, room / 2, 1, room} {
			all = wantAppended(t, l, all, randomBytes(r, n))
			wantFound(t, d, all)
		}
		wantUnappended(t, l, all, make([]byte, room+1), api.ErrLogSize)
	}
}

// P10.2: records that look like a log's blocks, or like blank ones, are told as they are.
func TestRecordsLikeBlocks(t *testing.T) {
	d := disk.New(7, 256)
	room := log.Room(d)
	l, _ := open(t, d)
	all := wantAppended(t, l, nil, bytes.Repeat([]byte{0xa5}, room))
	for i := range 14 {
		b, _ := d.Read(i % 7)
		all = wantAppended(t, l, all, bytes.Repeat(b, 9)[:room-i%3])
		wantFound(t, d, all)
		all = wantAppended(t, l, all, make([]byte, room-i%5))
		wantFound(t, d, all)
	}
}
