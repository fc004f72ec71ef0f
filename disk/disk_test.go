package disk_test

import (
	"bytes"
	"math"
	"math/rand/v2"
	"testing"

	"lych/api"
	"lych/disk"
)

func random(seed uint64) *rand.Rand { return rand.New(rand.NewPCG(seed, 9)) }

func randomBytes(r *rand.Rand, n int) []byte {
	b := make([]byte, n)
	for i := range b {
		b[i] = byte(r.Uint32())
	}
	return b
}

// full is n bytes, each of them x.
func full(n int, x byte) []byte { return bytes.Repeat([]byte{x}, n) }

// filled is a store whose block i is full of 10 + i.
func filled(t *testing.T, n, size int) *disk.Disk {
	t.Helper()
	d := disk.New(n, size)
	for i := range n {
		wantWritten(t, d, i, full(size, byte(10+i)))
	}
	return d
}

// wantRead holds Read to bytes.
func wantRead(t *testing.T, d *disk.Disk, i int, want []byte) {
	t.Helper()
	if got, err := d.Read(i); err != api.OK || !bytes.Equal(got, want) {
		t.Fatalf("Read(%d) = % x, %v; want % x", i, got, err, want)
	}
}

// wantUnread holds Read to an error, and to nothing beside it.
func wantUnread(t *testing.T, d *disk.Disk, i int, want api.Errno) {
	t.Helper()
	if got, err := d.Read(i); err != want || len(got) != 0 {
		t.Fatalf("Read(%d) = % x, %v; want %v", i, got, err, want)
	}
}

// wantWritten holds Write to its answer, and the block to what was written.
func wantWritten(t *testing.T, d *disk.Disk, i int, b []byte) {
	t.Helper()
	if err := d.Write(i, b); err != api.OK {
		t.Fatalf("Write(%d, %d bytes) = %v", i, len(b), err)
	}
	wantRead(t, d, i, b)
}

// wantUnwritten holds Write to an error.
func wantUnwritten(t *testing.T, d *disk.Disk, i int, b []byte, want api.Errno) {
	t.Helper()
	if err := d.Write(i, b); err != want {
		t.Fatalf("Write(%d, %d bytes) = %v; want %v", i, len(b), err, want)
	}
}

// wantFilled holds each block to what filled wrote into it.
func wantFilled(t *testing.T, d *disk.Disk) {
	t.Helper()
	for i := range d.Blocks() {
		wantRead(t, d, i, full(d.Size(), byte(10+i)))
	}
}

// wantPower holds Dead to whether there is no power.
func wantPower(t *testing.T, d *disk.Disk, want bool) {
	t.Helper()
	if d.Dead() == want {
		t.Fatalf("Dead() = %v; want %v", d.Dead(), !want)
	}
}

// The limits and the errors' numbers, as the chapter tells them.
func TestNumbers(t *testing.T) {
	if api.MaxBlocks != 64 || api.MaxBlock != 65536 {
		t.Error(api.MaxBlocks, api.MaxBlock)
	}
	if api.ErrDiskPlace != 40 || api.ErrDiskSize != 41 || api.ErrDiskDead != 42 {
		t.Error(api.ErrDiskPlace, api.ErrDiskSize, api.ErrDiskDead)
	}
}

// P9.1: both numbers at their edges, each with each; power, and all noughts.
func TestNew(t *testing.T) {
	counts := [][2]int{{math.MinInt, 1}, {-1, 1}, {0, 1}, {1, 1}, {2, 2}, {63, 63}, {64, 64}, {65, 64}, {math.MaxInt, 64}}
	sizes := [][2]int{{math.MinInt, 64}, {-1, 64}, {0, 64}, {1, 64}, {63, 64}, {64, 64}, {65, 65}, {1000, 1000}, {65535, 65535}, {65536, 65536}, {65537, 65536}, {math.MaxInt, 65536}}
	for _, n := range counts {
		for _, size := range sizes {
			d := disk.New(n[0], size[0])
			if d.Blocks() != n[1] || d.Size() != size[1] {
				t.Fatalf("New(%d, %d): %d blocks of %d bytes", n[0], size[0], d.Blocks(), d.Size())
			}
			wantPower(t, d, true)
			noughts := make([]byte, size[1])
			for i := range n[1] {
				wantRead(t, d, i, noughts)
			}
			wantUnread(t, d, n[1], api.ErrDiskPlace)
		}
	}
}

// P9.1: a new store has no Cut.
func TestNewHasNoCut(t *testing.T) {
	d := disk.New(1, 64)
	for x := range 100 {
		wantWritten(t, d, 0, full(64, byte(x)))
	}
	wantPower(t, d, true)
}

// P9.1: the first block and the last are there, one before and one behind aren't.
func TestPlaces(t *testing.T) {
	for _, n := range []int{1, 2, 3, 64} {
		d := filled(t, n, 64)
		wantRead(t, d, 0, full(64, 10))
		wantRead(t, d, n-1, full(64, byte(9+n)))
		for _, i := range []int{-1, n, n + 1, 1 << 32, -1 << 32, math.MinInt, math.MaxInt} {
			wantUnread(t, d, i, api.ErrDiskPlace)
			wantUnwritten(t, d, i, full(64, 1), api.ErrDiskPlace)
		}
		wantFilled(t, d)
		wantPower(t, d, true)
	}
}

// P9.1: a write changes its block, whole, and no other one.
func TestWriteIsOfOneBlock(t *testing.T) {
	r := random(1)
	for _, size := range []int{64, 65, 500} {
		d := filled(t, 5, size)
		for i := range 5 {
			b := randomBytes(r, size)
			wantWritten(t, d, i, b)
			wantWritten(t, d, i, b)
			for other := range 5 {
				if other != i {
					wantRead(t, d, other, full(size, byte(10+other)))
				}
			}
			wantWritten(t, d, i, full(size, byte(10+i)))
		}
	}
}

// P9.1: just so many bytes are written; one fewer or one more, or none, are refused, and nothing is.
func TestWriteSizes(t *testing.T) {
	for _, size := range []int{64, 65, 4096, 65536} {
		d := filled(t, 3, size)
		for _, n := range []int{0, 1, size - 1, size + 1, 2 * size, 3 * size} {
			for i := range 3 {
				wantUnwritten(t, d, i, full(n, 1), api.ErrDiskSize)
			}
		}
		wantUnwritten(t, d, 0, nil, api.ErrDiskSize)
		wantUnwritten(t, d, 0, full(size, 1)[:size-1], api.ErrDiskSize)
		wantFilled(t, d)
		wantWritten(t, d, 1, full(size, 1))
		wantPower(t, d, true)
	}
}

// P9.1: of Write's errors no power comes first, then the place, then the size; of Read's no power, then the place.
func TestOrderOfErrors(t *testing.T) {
	d := filled(t, 2, 64)
	for _, i := range []int{-1, 2} {
		for _, n := range []int{0, 63, 65} {
			wantUnwritten(t, d, i, full(n, 1), api.ErrDiskPlace)
		}
	}
	d.Cut(0, 0)
	wantUnwritten(t, d, 0, full(64, 1), api.ErrDiskDead)
	for _, i := range []int{-1, 0, 1, 2} {
		wantUnread(t, d, i, api.ErrDiskDead)
		for _, n := range []int{0, 63, 64, 65} {
			wantUnwritten(t, d, i, full(n, 1), api.ErrDiskDead)
		}
	}
	d.Power()
	wantFilled(t, d)
}

// DOC.md, what holds everywhere, 3: what Read answers is new memory, each time.
func TestReadSharesNothing(t *testing.T) {
	d := filled(t, 3, 64)
	one, _ := d.Read(1)
	two, _ := d.Read(1)
	clear(one[:cap(one)])
	if !bytes.Equal(two, full(64, 11)) {
		t.Errorf("two answers share: % x", two)
	}
	wantFilled(t, d)
	wantWritten(t, d, 1, full(64, 5))
	if !bytes.Equal(two, full(64, 11)) || !bytes.Equal(one, make([]byte, 64)) {
		t.Errorf("a write changed answers: % x, % x", one, two)
	}
	d.Spoil(1, 3, 0xff)
	if two[3] != 11 {
		t.Errorf("Spoil changed an answer: % x", two)
	}
}

// DOC.md, what holds everywhere, 3: Write neither changes nor keeps what it is handed, nor the room behind it.
func TestWriteKeepsNothing(t *testing.T) {
	for prefix := -1; prefix < 66; prefix++ {
		d := filled(t, 3, 64)
		room := full(200, 7)
		b := room[50:114]
		wantWritten(t, d, 1, b)
		d.Cut(0, prefix)
		wantUnwritten(t, d, 2, b, api.ErrDiskDead)
		wantUnwritten(t, d, 1, b, api.ErrDiskDead)
		wantUnwritten(t, d, 1, room, api.ErrDiskDead)
		d.Power()
		wantUnwritten(t, d, 1, room[:63], api.ErrDiskSize)
		wantUnwritten(t, d, 3, b, api.ErrDiskPlace)
		d.Spoil(1, 0, 0)
		if !bytes.Equal(room, full(200, 7)) {
			t.Fatalf("changed: % x", room)
		}
		clear(room)
		wantRead(t, d, 1, full(64, 7))
		n := min(max(prefix, 0), 64)
		wantRead(t, d, 2, append(full(n, 7), full(64-n, 12)...))
		d.Spoil(1, 5, 0xff)
		if !bytes.Equal(room, make([]byte, 200)) {
			t.Fatalf("kept: % x", room)
		}
	}
}

// DOC.md, what holds everywhere, 8: two stores have nothing in common.
func TestStoresAreApart(t *testing.T) {
	one, two := filled(t, 2, 64), filled(t, 2, 64)
	one.Spoil(0, 0, 1)
	one.Cut(0, 9)
	wantUnwritten(t, one, 1, full(64, 1), api.ErrDiskDead)
	wantPower(t, two, true)
	wantFilled(t, two)
	wantWritten(t, two, 1, full(64, 3))
	wantPower(t, one, false)
}
