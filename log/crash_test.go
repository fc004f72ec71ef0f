package log_test

import (
	"bytes"
	"testing"

	"lych/api"
	"lych/disk"
	"lych/log"
)

// edges are prefixes of a block's write: none, all, and some within, near both ends.
func edges(size int) []int {
	return []int{0, 1, 2, 4, 5, 7, 8, 9, 13, 21, 27, 40, 62, 63, 64, 65, size / 2, size - 65, size - 9, size - 8, size - 7, size - 2, size - 1, size}
}

// writes tells how many writes the next Append of b to d would make.
func writes(t *testing.T, d *disk.Disk, b []byte) int {
	t.Helper()
	for n := range 200 {
		c := d.Copy()
		l, _ := open(t, c)
		c.Cut(n, 0)
		if l.Append(b) == api.OK {
			return n
		}
	}
	t.Fatal("no end of writes")
	return 0
}

// wantEither holds what Open finds behind a failed Append of b to the one ahead of it or b, and tells which.
func wantEither(t *testing.T, d *disk.Disk, all [][]byte, b []byte) (*log.Log, [][]byte) {
	t.Helper()
	l, _ := open(t, d.Copy())
	if l.Records() != len(all) {
		all = append(all[:len(all):len(all)], b)
	}
	return wantFound(t, d, all), all
}

// wantGoesOn holds a log to further appends, an Open behind each.
func wantGoesOn(t *testing.T, d *disk.Disk, l *log.Log, all [][]byte) {
	t.Helper()
	for n := range 3 {
		all = wantAppended(t, l, all, bytes.Repeat([]byte{byte(n)}, n*log.Room(d)/2))
		wantFound(t, d, all)
	}
}

// grown is a store with so many records, the last ones as great as may be.
func grown(t *testing.T, blocks, size, records int) (*disk.Disk, [][]byte) {
	t.Helper()
	r := random(uint64(records))
	d := disk.New(blocks, size)
	l, _ := open(t, d)
	var all [][]byte
	for i := range records {
		all = wantAppended(t, l, all, randomBytes(r, log.Room(d)-i%2))
	}
	return d, all
}

// P10.3 and P10.4: at every write of an Append and at many prefixes, behind no record, one and many: Open finds the one ahead of it or it, whole, and the log goes on.
func TestCutEverywhere(t *testing.T) {
	for _, row := range [][2]int{{4, 256}, {5, 256}, {8, 300}} {
		for _, records := range []int{0, 1, 2, 3, 20} {
			d, all := grown(t, row[0], row[1], records)
			room := log.Room(d)
			for _, b := range [][]byte{nil, {7}, randomBytes(random(9), room/2), randomBytes(random(9), room), make([]byte, room)} {
				for n := range writes(t, d, b) {
					for _, prefix := range edges(row[1]) {
						c := d.Copy()
						l, _ := open(t, c)
						c.Cut(n, prefix)
						wantUnappended(t, l, all, b, api.ErrDiskDead)
						wantRefused(t, c, api.ErrDiskDead)
						c.Power()
						wantEither(t, c.Copy(), all, b)
						l, now := wantEither(t, c, all, b)
						wantGoesOn(t, c, l, now)
					}
				}
			}
		}
	}
}

// P10.3: at every byte of every write; just the last write, when all its bytes are there, leaves the new record.
func TestCutAtEachByte(t *testing.T) {
	for _, records := range []int{0, 1, 2, 5} {
		d, all := grown(t, 6, 256, records)
		b := randomBytes(random(8), log.Room(d))
		count := writes(t, d, b)
		for n := range count {
			for prefix := range 257 {
				c := d.Copy()
				l, _ := open(t, c)
				c.Cut(n, prefix)
				wantUnappended(t, l, all, b, api.ErrDiskDead)
				c.Power()
				wantEither(t, c, all, b)
			}
		}
		d.Cut(count-1, 256)
		l, _ := open(t, d)
		wantUnappended(t, l, all, b, api.ErrDiskDead)
		d.Power()
		wantFound(t, d, append(all, b))
	}
}

// sameSum tells b turned here and there, and at its end, so that its checksum stays.
func sameSum(t *testing.T, b []byte) []byte {
	t.Helper()
	out := bytes.Clone(b)
	for at := len(b) - 5; at >= 0; at -= 17 {
		for i, x := range []byte{1, 0x96, 0x30, 0x07, 0x77} {
			out[at+i] ^= x
		}
	}
	if log.Sum(out) != log.Sum(b) || bytes.Equal(out, b) {
		t.Fatal("not the same sum")
	}
	return out
}

// P10.3: records that have the same checksum as one another, or as the noughts of blocks that are blank: no checksum tells a torn one from a whole one.
func TestCutAmongSameSums(t *testing.T) {
	for _, blocks := range []int{4, 6} {
		d := disk.New(blocks, 256)
		for _, plain := range [][]byte{randomBytes(random(7), log.Room(d)), make([]byte, log.Room(d))} {
			d := d.Copy()
			turned := sameSum(t, plain)
			l, _ := open(t, d)
			var all [][]byte
			for i := range 9 {
				b := [][]byte{plain, turned, turned, plain, plain}[i%5]
				for n := range writes(t, d, b) {
					for prefix := range 257 {
						c := d.Copy()
						l, _ := open(t, c)
						c.Cut(n, prefix)
						wantUnappended(t, l, all, b, api.ErrDiskDead)
						c.Power()
						wantEither(t, c, all, b)
					}
				}
				all = wantAppended(t, l, all, b)
			}
		}
	}
}

// P10.3: two failures one behind the other, at every write and many prefixes, an Open between: each finds the one ahead of it or it.
func TestTwoFailures(t *testing.T) {
	prefixes := []int{0, 1, 8, 63, 100, 248, 255, 256}
	for _, records := range []int{0, 1, 4} {
		d, all := grown(t, 8, 256, records)
		room := log.Room(d)
		one, two := randomBytes(random(6), room), randomBytes(random(5), room/2)
		for n := range writes(t, d, one) {
			for _, prefix := range prefixes {
				c := d.Copy()
				l, _ := open(t, c)
				c.Cut(n, prefix)
				wantUnappended(t, l, all, one, api.ErrDiskDead)
				c.Power()
				_, once := wantEither(t, c, all, one)
				for m := range writes(t, c, two) {
					for _, prefix := range prefixes {
						c := c.Copy()
						l, _ := open(t, c)
						c.Cut(m, prefix)
						wantUnappended(t, l, once, two, api.ErrDiskDead)
						c.Power()
						l, twice := wantEither(t, c, once, two)
						wantGoesOn(t, c, l, twice)
					}
				}
			}
		}
	}
}

// P10.2 and P10.3: a log whose Append failed goes on behind Power without an Open; what failed isn't counted by it.
func TestSameLogGoesOn(t *testing.T) {
	for _, records := range []int{0, 1, 4} {
		d, all := grown(t, 6, 256, records)
		b := randomBytes(random(6), log.Room(d))
		for n := range writes(t, d, b) {
			for _, prefix := range edges(256) {
				c := d.Copy()
				l, _ := open(t, c)
				c.Cut(n, prefix)
				wantUnappended(t, l, all, b, api.ErrDiskDead)
				c.Power()
				wantTold(t, l, all)
				wantGoesOn(t, c, l, all)
			}
		}
	}
}

// P10.3: a log whose Append failed fails again, without an Open between: whole is what Open finds, and what it would have found ahead of it or the new one.
func TestSameLogFailsAgain(t *testing.T) {
	d, all := grown(t, 6, 256, 3)
	one, two := randomBytes(random(6), log.Room(d)), randomBytes(random(5), log.Room(d))
	for n := range writes(t, d, one) {
		for _, prefix := range edges(256) {
			for m := range 4 {
				for _, again := range edges(256) {
					c := d.Copy()
					l, _ := open(t, c)
					c.Cut(n, prefix)
					wantUnappended(t, l, all, one, api.ErrDiskDead)
					c.Power()
					between, _ := open(t, c)
					c.Cut(m, again)
					if l.Append(two) == api.OK {
						wantFound(t, c, append(all[:len(all):len(all)], two))
						continue
					}
					c.Power()
					wantTold(t, l, all)
					found, _ := open(t, c)
					if !bytes.Equal(found.Last(), between.Last()) && !bytes.Equal(found.Last(), two) {
						t.Fatalf("% .20x", found.Last())
					}
					wantGoesOn(t, c, l, all)
				}
			}
		}
	}
}

// P10.3: Open writes nothing: no Cut is met, and no block is another.
func TestOpenWritesNothing(t *testing.T) {
	for _, records := range []int{0, 1, 2, 9} {
		d, all := grown(t, 5, 256, records)
		for n := range 3 {
			for _, prefix := range []int{0, 100, 256} {
				c := d.Copy()
				l, _ := open(t, c)
				c.Cut(n, prefix)
				l.Append([]byte("torn"))
				c.Power()
				before := c.Copy()
				c.Cut(0, 0)
				for range 3 {
					wantEither(t, c, all, []byte("torn"))
				}
				if c.Dead() {
					t.Fatal("Open writes")
				}
				for i := range 5 {
					x, _ := before.Read(i)
					if y, _ := c.Read(i); !bytes.Equal(x, y) {
						t.Fatalf("block %d is another", i)
					}
				}
			}
		}
	}
}

// P10.4: any appends, any failures, an Open behind them or none: the last record that was acknowledged is there, or a later one.
func TestAnyStory(t *testing.T) {
	r := random(12)
	for range 3000 {
		d := disk.New(4+r.IntN(6), 256+r.IntN(3))
		l, _ := open(t, d)
		var all [][]byte
		for range 1 + r.IntN(12) {
			b := randomBytes(r, r.IntN(log.Room(d)+1))
			if r.IntN(3) == 0 {
				b = bytes.Repeat([]byte{byte(r.IntN(2))}, len(b))
			}
			if r.IntN(2) == 0 {
				all = wantAppended(t, l, all, b)
				continue
			}
			d.Cut(r.IntN(5), edges(d.Size())[r.IntN(24)])
			err := l.Append(b)
			d.Power()
			switch {
			case err == api.OK:
				all = append(all, b)
				wantTold(t, l, all)
			case err != api.ErrDiskDead:
				t.Fatal(err)
			case r.IntN(3) == 0:
				wantTold(t, l, all)
				all = wantAppended(t, l, all, []byte("again"))
			default:
				l, all = wantEither(t, d, all, b)
			}
		}
		wantFound(t, d, all)
	}
}
