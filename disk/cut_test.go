package disk_test

import (
	"bytes"
	"math"
	"testing"

	"lych/api"
	"lych/disk"
)

// P9.2: the chapter's example: three bytes are new.
func TestExample(t *testing.T) {
	d := filled(t, 1, 64)
	d.Cut(0, 3)
	wantUnwritten(t, d, 0, full(64, 99), api.ErrDiskDead)
	d.Power()
	wantRead(t, d, 0, append([]byte{99, 99, 99}, full(61, 10)...))
}

// P9.2 and P9.3: which write fails, what it answers, what of it is there, and that all behind the prefix is old; no other block is touched.
func TestCut(t *testing.T) {
	r := random(2)
	for _, n := range []int{math.MinInt, -2, -1, 0, 1, 2, 3, 10} {
		for _, size := range []int{64, 65, 300} {
			for _, prefix := range []int{math.MinInt, -1, 0, 1, 2, 63, size/2 + 1, size - 1, size, size + 1, math.MaxInt} {
				d := filled(t, 3, size)
				d.Cut(n, prefix)
				wantPower(t, d, true)
				old := full(size, 11)
				for range n {
					old = randomBytes(r, size)
					wantWritten(t, d, 1, old)
					wantPower(t, d, true)
				}
				b := randomBytes(r, size)
				wantUnwritten(t, d, 1, b, api.ErrDiskDead)
				wantPower(t, d, false)
				d.Power()
				there := min(max(prefix, 0), size)
				wantRead(t, d, 1, append(bytes.Clone(b[:there]), old[there:]...))
				wantRead(t, d, 0, full(size, 10))
				wantRead(t, d, 2, full(size, 12))
			}
		}
	}
}

// P9.3: at each prefix the block is new before it and old behind it, byte by byte, in the first block and in the last.
func TestOldBehindEachPrefix(t *testing.T) {
	r := random(3)
	for _, i := range []int{0, 1} {
		for prefix := range 66 {
			d := disk.New(2, 64)
			old, b := randomBytes(r, 64), randomBytes(r, 64)
			wantWritten(t, d, i, old)
			d.Cut(0, prefix)
			wantUnwritten(t, d, i, b, api.ErrDiskDead)
			d.Power()
			got, err := d.Read(i)
			if err != api.OK || len(got) != 64 {
				t.Fatalf("Read(%d): % x, %v", i, got, err)
			}
			for at, x := range got {
				if at < prefix && x != b[at] || at >= prefix && x != old[at] {
					t.Fatalf("prefix %d, byte %d: %x; old %x, new %x", prefix, at, x, old[at], b[at])
				}
			}
			wantRead(t, d, 1-i, make([]byte, 64))
		}
	}
}

// P9.2: the writes are counted over all blocks.
func TestCutCountsAllBlocks(t *testing.T) {
	d := filled(t, 4, 64)
	d.Cut(3, 5)
	wantWritten(t, d, 3, full(64, 1))
	wantWritten(t, d, 0, full(64, 1))
	wantWritten(t, d, 1, full(64, 1))
	wantUnwritten(t, d, 2, full(64, 1), api.ErrDiskDead)
	d.Power()
	wantRead(t, d, 2, append(full(5, 1), full(59, 12)...))
}

// P9.2: what is refused isn't counted, neither among the n nor as the one that fails; nor are reads and Spoils.
func TestCutCountsNoRefused(t *testing.T) {
	d := filled(t, 2, 64)
	d.Cut(1, 5)
	others := func() {
		for range 3 {
			wantUnwritten(t, d, -1, full(64, 1), api.ErrDiskPlace)
			wantUnwritten(t, d, 2, full(64, 1), api.ErrDiskPlace)
			wantUnwritten(t, d, 0, full(63, 1), api.ErrDiskSize)
			wantUnwritten(t, d, 0, full(65, 1), api.ErrDiskSize)
			wantUnwritten(t, d, 0, nil, api.ErrDiskSize)
			wantUnread(t, d, 2, api.ErrDiskPlace)
			wantRead(t, d, 1, full(64, 11))
			d.Spoil(0, 0, 1)
			d.Spoil(0, 0, 1)
			wantPower(t, d, true)
		}
	}
	others()
	wantWritten(t, d, 0, full(64, 1))
	others()
	wantUnwritten(t, d, 0, full(64, 2), api.ErrDiskDead)
	d.Power()
	wantRead(t, d, 0, append(full(5, 2), full(59, 1)...))
}

// P9.2: a write that changes nothing is counted as any other, and fails as any other.
func TestCutCountsSameBytes(t *testing.T) {
	d := filled(t, 1, 64)
	d.Cut(1, 64)
	wantWritten(t, d, 0, full(64, 10))
	wantUnwritten(t, d, 0, full(64, 10), api.ErrDiskDead)
	wantPower(t, d, false)
}

// P9.2: from the write that failed on there is no power; nothing is written or read, and the store keeps what it had.
func TestNoPower(t *testing.T) {
	d := filled(t, 3, 64)
	d.Cut(0, 64)
	wantUnwritten(t, d, 1, full(64, 99), api.ErrDiskDead)
	for range 5 {
		for i := range 3 {
			wantUnwritten(t, d, i, full(64, 1), api.ErrDiskDead)
			wantUnread(t, d, i, api.ErrDiskDead)
		}
		wantPower(t, d, false)
	}
	if d.Blocks() != 3 || d.Size() != 64 {
		t.Errorf("%d blocks of %d bytes", d.Blocks(), d.Size())
	}
	d.Power()
	wantPower(t, d, true)
	wantRead(t, d, 0, full(64, 10))
	wantRead(t, d, 1, full(64, 99))
	wantRead(t, d, 2, full(64, 12))
}

// P9.2: a Cut far off doesn't fail a write that is before it.
func TestCutFarOff(t *testing.T) {
	for _, n := range []int{1000, 1 << 31, 1 << 32, math.MaxInt} {
		d := disk.New(1, 64)
		d.Cut(n, 0)
		for x := range 1000 {
			wantWritten(t, d, 0, full(64, byte(x)))
		}
		wantPower(t, d, true)
	}
}

// P9.2: a later Cut takes an earlier one back, nearer or farther, whatever of the earlier one is done; its own prefix holds.
func TestLaterCut(t *testing.T) {
	rows := []struct{ earlier, done, later int }{
		{0, 0, 0}, {0, 0, 2}, {5, 0, 0}, {5, 0, 3}, {5, 3, 0}, {5, 5, 0}, {5, 5, 4}, {1, 1, 1}, {2, 1, 2}, {3, 2, -1},
	}
	for _, row := range rows {
		for _, prefixes := range [][2]int{{9, 3}, {3, 9}, {64, 0}, {0, 64}} {
			d := disk.New(1, 64)
			wantWritten(t, d, 0, full(64, 20))
			d.Cut(row.earlier, prefixes[0])
			for range row.done {
				wantWritten(t, d, 0, full(64, 20))
			}
			d.Cut(row.later, prefixes[1])
			for range row.later {
				wantWritten(t, d, 0, full(64, 20))
			}
			wantUnwritten(t, d, 0, full(64, 30), api.ErrDiskDead)
			d.Power()
			there := prefixes[1]
			wantRead(t, d, 0, append(full(there, 30), full(64-there, 20)...))
		}
	}
}

// P9.2: once the later Cut has failed its write, nothing of the earlier one is left behind Power.
func TestLaterCutIsTheOnlyOne(t *testing.T) {
	d := filled(t, 1, 64)
	d.Cut(1, 9)
	d.Cut(0, 3)
	wantUnwritten(t, d, 0, full(64, 30), api.ErrDiskDead)
	d.Power()
	for x := range 10 {
		wantWritten(t, d, 0, full(64, byte(x)))
	}
}

// P9.2: a Cut doesn't bring power, and Power takes one away that was asked for without power.
func TestCutWithoutPower(t *testing.T) {
	for _, n := range []int{-1, 0, 1, 5} {
		d := filled(t, 2, 64)
		d.Cut(0, 0)
		wantUnwritten(t, d, 0, full(64, 30), api.ErrDiskDead)
		d.Cut(n, 64)
		wantPower(t, d, false)
		for range 8 {
			wantUnwritten(t, d, 0, full(64, 30), api.ErrDiskDead)
			wantUnread(t, d, 0, api.ErrDiskDead)
		}
		d.Power()
		wantFilled(t, d)
		for x := range 10 {
			wantWritten(t, d, 0, full(64, byte(x)))
		}
		wantPower(t, d, true)
	}
}

// P9.2: Power takes a Cut away, whatever of it is done; where there is neither a Cut nor no power, it does nothing.
func TestPower(t *testing.T) {
	for n := range 4 {
		for done := range n + 1 {
			d := filled(t, 2, 64)
			d.Cut(n, 7)
			for range done {
				wantWritten(t, d, 0, full(64, 10))
			}
			d.Power()
			wantPower(t, d, true)
			wantFilled(t, d)
			for x := range 10 {
				wantWritten(t, d, 0, full(64, byte(x)))
			}
		}
	}
	d := filled(t, 2, 64)
	d.Power()
	d.Power()
	wantPower(t, d, true)
	wantFilled(t, d)
}

// P9.2: power may fail again and again, each time at another write.
func TestPowerAgain(t *testing.T) {
	d := filled(t, 1, 64)
	old := full(64, 10)
	for k := range 20 {
		d.Cut(k%3, k)
		for range k % 3 {
			old = full(64, byte(100+k))
			wantWritten(t, d, 0, old)
		}
		wantUnwritten(t, d, 0, full(64, byte(200+k)), api.ErrDiskDead)
		wantPower(t, d, false)
		d.Power()
		old = append(full(k, byte(200+k)), old[k:]...)
		wantRead(t, d, 0, old)
	}
}

// P9.2: a copy has the bytes, and neither is changed by what is done to the other.
func TestCopy(t *testing.T) {
	for _, n := range []int{1, 2, 64} {
		d := filled(t, n, 65)
		c := d.Copy()
		if c.Blocks() != n || c.Size() != 65 {
			t.Fatalf("%d blocks of %d bytes", c.Blocks(), c.Size())
		}
		wantPower(t, c, true)
		wantFilled(t, c)
		for i := range n {
			wantWritten(t, d, i, full(65, 1))
			d.Spoil(i, 64, 0xff)
		}
		wantFilled(t, c)
		d = c.Copy()
		for i := range n {
			wantWritten(t, c, i, full(65, 1))
			c.Spoil(i, 0, 0xff)
		}
		wantFilled(t, d)
		c.Cut(0, 0)
		wantUnwritten(t, c, 0, full(65, 2), api.ErrDiskDead)
		wantPower(t, d, true)
		wantWritten(t, d, 0, full(65, 3))
	}
}

// P9.2: a copy of a store without power has none, and each gets its own back.
func TestCopyWithoutPower(t *testing.T) {
	d := filled(t, 2, 64)
	d.Cut(0, 8)
	wantUnwritten(t, d, 1, full(64, 99), api.ErrDiskDead)
	c := d.Copy()
	wantPower(t, c, false)
	wantUnread(t, c, 0, api.ErrDiskDead)
	wantUnwritten(t, c, 0, full(64, 1), api.ErrDiskDead)
	c.Power()
	wantPower(t, c, true)
	wantPower(t, d, false)
	wantRead(t, c, 0, full(64, 10))
	wantRead(t, c, 1, append(full(8, 99), full(56, 11)...))
	wantWritten(t, c, 1, full(64, 5))
	e := d.Copy()
	d.Power()
	wantPower(t, e, false)
	wantRead(t, d, 1, append(full(8, 99), full(56, 11)...))
}

// P9.2: a copy has the Cut, with what of it is done; the writes of the one aren't counted in the other.
func TestCopyWithCut(t *testing.T) {
	for n := range 4 {
		for done := range n + 1 {
			d := filled(t, 1, 64)
			d.Cut(n, 6)
			for range done {
				wantWritten(t, d, 0, full(64, 20))
			}
			for _, both := range [][2]*disk.Disk{{d, d.Copy()}, {d.Copy(), d}} {
				for _, one := range both {
					one = one.Copy()
					for range n - done {
						wantWritten(t, one, 0, full(64, 30))
					}
					wantPower(t, one, true)
					old, _ := one.Read(0)
					wantUnwritten(t, one, 0, full(64, 40), api.ErrDiskDead)
					one.Power()
					wantRead(t, one, 0, append(full(6, 40), old[6:]...))
				}
			}
			c := d.Copy()
			d.Power()
			for range n - done {
				wantWritten(t, c, 0, full(64, 30))
			}
			wantUnwritten(t, c, 0, full(64, 40), api.ErrDiskDead)
			wantWritten(t, d, 0, full(64, 50))
			wantPower(t, d, true)
		}
	}
}

// P9.2: another Cut of the one leaves the other's as it was.
func TestCopyKeepsItsCut(t *testing.T) {
	d := filled(t, 1, 64)
	d.Cut(1, 6)
	c := d.Copy()
	d.Cut(3, 7)
	wantWritten(t, c, 0, full(64, 1))
	wantUnwritten(t, c, 0, full(64, 2), api.ErrDiskDead)
	for range 3 {
		wantWritten(t, d, 0, full(64, 1))
	}
	wantUnwritten(t, d, 0, full(64, 2), api.ErrDiskDead)
	d.Power()
	c.Power()
	wantRead(t, c, 0, append(full(6, 2), full(58, 1)...))
	wantRead(t, d, 0, append(full(7, 2), full(57, 1)...))
}

// P9.2: Spoil turns the bits of one byte, of the first and the last block and of their first and last byte; twice the same takes it back.
func TestSpoil(t *testing.T) {
	for _, i := range []int{0, 1, 2} {
		for _, at := range []int{0, 1, 40, 79} {
			for _, x := range []byte{0, 1, 0x80, 0xa5, 0xff} {
				d := filled(t, 3, 80)
				d.Spoil(i, at, x)
				for other := range 3 {
					want := full(80, byte(10+other))
					if other == i {
						want[at] ^= x
					}
					wantRead(t, d, other, want)
				}
				d.Spoil(i, at, x)
				wantFilled(t, d)
			}
		}
	}
}

// P9.2: Spoils of one byte come on top of one another; a write behind them takes them away.
func TestSpoilOnSpoil(t *testing.T) {
	d := disk.New(1, 64)
	d.Spoil(0, 5, 0x0f)
	d.Spoil(0, 5, 0xfc)
	want := make([]byte, 64)
	want[5] = 0xf3
	wantRead(t, d, 0, want)
	wantWritten(t, d, 0, full(64, 1))
}

// P9.2: Spoil of no such byte does nothing.
func TestSpoilNoSuchByte(t *testing.T) {
	d := filled(t, 3, 80)
	for _, i := range []int{math.MinInt, -1, 3, 4, 1 << 32, math.MaxInt} {
		for _, at := range []int{math.MinInt, -1, 0, 79, 80, math.MaxInt} {
			d.Spoil(i, at, 0xff)
		}
	}
	for i := range 3 {
		for _, at := range []int{math.MinInt, -80, -1, 80, 81, 160, 1 << 32, math.MaxInt} {
			d.Spoil(i, at, 0xff)
		}
	}
	wantFilled(t, d)
	wantPower(t, d, true)
}

// P9.2: Spoil is done without power, too, and brings none.
func TestSpoilWithoutPower(t *testing.T) {
	d := filled(t, 2, 64)
	d.Cut(0, 2)
	wantUnwritten(t, d, 0, full(64, 99), api.ErrDiskDead)
	d.Spoil(0, 1, 0xff)
	d.Spoil(0, 63, 0x01)
	d.Spoil(1, 0, 0x80)
	d.Spoil(2, 0, 0x80)
	d.Spoil(1, 64, 0x80)
	wantPower(t, d, false)
	d.Power()
	first := append([]byte{99, 99 ^ 0xff}, full(62, 10)...)
	first[63] = 10 ^ 1
	wantRead(t, d, 0, first)
	wantRead(t, d, 1, append([]byte{11 ^ 0x80}, full(63, 11)...))
}

// P9.2 and P9.3: what a failed write leaves of a block that was spoilt is what the spoiling left.
func TestOldIsSpoiltOld(t *testing.T) {
	d := filled(t, 1, 64)
	d.Spoil(0, 1, 0xff)
	d.Spoil(0, 50, 0xff)
	d.Cut(0, 8)
	wantUnwritten(t, d, 0, full(64, 99), api.ErrDiskDead)
	d.Power()
	want := append(full(8, 99), full(56, 10)...)
	want[50] ^= 0xff
	wantRead(t, d, 0, want)
}
