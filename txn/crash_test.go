package txn_test

import (
	"testing"

	"lych/api"
	"lych/disk"
	"lych/log"
	"lych/txn"
)

// edges are prefixes of a block's write: none, all, and some within, near both ends.
func edges(size int) []int {
	return []int{0, 1, 2, 5, 8, 13, 21, 27, 40, 62, 63, 64, 65, 71, 72, 100, size / 2, size - 65, size - 8, size - 2, size - 1, size}
}

// writes tells how many writes a Commit of c on d makes.
func writes(t *testing.T, d *disk.Disk, c api.Config) int {
	t.Helper()
	for n := range 200 {
		other := d.Copy()
		s := open(t, other)
		stage(t, s, c)
		other.Cut(n, 0)
		if _, err := s.Commit(); err == api.OK {
			return n
		}
	}
	t.Fatal("no end of writes")
	return 0
}

// wantCrash holds a Commit that fails at write n, with that prefix there, to ErrDiskDead and a store that is down.
func wantCrash(t *testing.T, d *disk.Disk, s *txn.Store, n, prefix int) {
	t.Helper()
	version, c := s.Version(), s.Config()
	d.Cut(n, prefix)
	if got, err := s.Commit(); got != 0 || err != api.ErrDiskDead {
		t.Fatalf("write %d, %d bytes: %d, %v", n, prefix, got, err)
	}
	wantDown(t, s, version, c)
	wantNoStore(t, d, api.ErrDiskDead)
}

// wantEither holds what Open finds to what held ahead of a Commit of next, or behind it, whole, and tells the store and whether it is what was ahead.
func wantEither(t *testing.T, d *disk.Disk, version uint64, c, next api.Config) (s *txn.Store, ahead bool) {
	t.Helper()
	if open(t, d).Version() == version {
		return wantFound(t, d, version, c), true
	}
	return wantFound(t, d, version+1, next), false
}

// grown is a disk with so many commits, and the settings of the last one.
func grown(t *testing.T, blocks, size, commits int) (*disk.Disk, api.Config) {
	t.Helper()
	d := disk.New(blocks, size)
	s, c := open(t, d), api.Config{}
	for i := range commits {
		c = settings(i, rights(1+i%2)...)
		commit(t, s, c)
	}
	return d, c
}

// P16.3, P16.4: at every write of a Commit and at many prefixes, behind no commit, one and many, of few and of many blocks: the store is down, Open finds what was ahead of it or behind it, whole, a second Open the same, and transactions go on from there.
func TestCrashEverywhere(t *testing.T) {
	both := [2]int{}
	for _, row := range [][2]int{{4, 512}, {8, 256}, {9, 260}} {
		for _, commits := range []int{0, 1, 2, 7} {
			d, c := grown(t, row[0], row[1], commits)
			version := uint64(commits)
			for _, next := range []api.Config{settings(50), settings(50, right(2), right(9)), sized(t, log.Room(d))} {
				for n := range writes(t, d, next) {
					for _, prefix := range edges(row[1]) {
						crashed := d.Copy()
						s := open(t, crashed)
						stage(t, s, next)
						wantCrash(t, crashed, s, n, prefix)
						crashed.Power()
						wantDown(t, s, version, c)
						s, ahead := wantEither(t, crashed, version, c, next)
						again, ahead2 := wantEither(t, crashed, version, c, next)
						if ahead != ahead2 || again.Version() != s.Version() {
							t.Fatal("a second Open finds another one")
						}
						if ahead {
							both[0]++
						} else {
							both[1]++
						}
						wantGoesOn(t, crashed, s)
					}
				}
			}
		}
	}
	if both[0] == 0 || both[1] == 0 {
		t.Errorf("ahead %d times, behind %d times", both[0], both[1])
	}
}

// wantGoesOn holds a store to further transactions, an Open behind each.
func wantGoesOn(t *testing.T, d *disk.Disk, s *txn.Store) {
	t.Helper()
	version := s.Version()
	for i := range uint64(3) {
		c := settings(int(60+i), rights(int(i))...)
		commit(t, s, c)
		wantFound(t, d, version+i+1, c)
	}
}

// P16.4: at every byte of every write of a Commit; where all bytes of the last one are there, what is behind it is found.
func TestCrashAtEachByte(t *testing.T) {
	for _, commits := range []int{0, 1, 2} {
		d, c := grown(t, 6, 300, commits)
		next := sized(t, log.Room(d))
		count := writes(t, d, next)
		if count < 2 {
			t.Fatalf("%d writes", count)
		}
		for n := range count {
			for prefix := range 301 {
				crashed := d.Copy()
				s := open(t, crashed)
				stage(t, s, next)
				wantCrash(t, crashed, s, n, prefix)
				crashed.Power()
				_, ahead := wantEither(t, crashed, uint64(commits), c, next)
				if whole := n == count-1 && prefix == 300; whole && ahead {
					t.Fatal("what was written whole isn't there")
				}
			}
		}
	}
}

// P16.4: behind a Commit that answered its version, that version and its settings are there, though the power goes at the next write, whatever it is.
func TestAcknowledgedIsThere(t *testing.T) {
	d, _ := grown(t, 6, 300, 2)
	next := settings(50, right(3))
	count := writes(t, d, next)
	s := open(t, d)
	stage(t, s, next)
	d.Cut(count, 0)
	wantCommitted(t, s, next)
	if d.Dead() {
		t.Fatal("no power")
	}
	wantFound(t, d.Copy(), 3, next)
	kill(d)
	wantNoStore(t, d, api.ErrDiskDead)
	d.Power()
	wantFound(t, d, 3, next)
	stage(t, s, settings(51))
	wantCrash(t, d, s, 0, 300)
	d.Power()
	wantFound(t, d, 3, next)
}

// P16.4, P16.5: crashes at any writes in a long row of commits: versions rise by one with each acknowledged Commit and never fall; no version is found with settings unlike those it was acknowledged with, by any later Open.
func TestAnyCrashes(t *testing.T) {
	r := random(4)
	for range 40 {
		d := disk.New(4+r.IntN(6), 512+r.IntN(300))
		s := open(t, d)
		holds, version := api.Config{}, uint64(0)
		acknowledged := map[uint64]api.Config{}
		for range 60 {
			next := randomSettings(r, 3)
			stage(t, s, next)
			if r.IntN(2) == 0 {
				d.Cut(r.IntN(5), r.IntN(d.Size()+1))
			}
			n, err := s.Commit()
			switch {
			case err == api.OK && n == version+1:
				if _, twice := acknowledged[n]; twice {
					t.Fatalf("version %d is acknowledged twice", n)
				}
				acknowledged[n], holds, version = next, next, n
			case err == api.ErrDiskDead && n == 0:
				wantDown(t, s, version, holds)
			default:
				t.Fatalf("Commit: %d, %v", n, err)
			}
			if err == api.OK && r.IntN(3) > 0 {
				d.Power()
				wantHolds(t, s, version, holds)
				continue
			}
			d.Power()
			var ahead bool
			if s, ahead = wantEither(t, d, version, holds, next); !ahead {
				if err == api.OK {
					t.Fatalf("version %d that nobody asked for", s.Version())
				}
				holds, version = next, version+1
			}
			if was, told := acknowledged[version]; told && !equal(was, s.Config()) {
				t.Fatalf("version %d: %v; acknowledged was %v", version, s.Config(), was)
			}
		}
	}
}

// P16.4: crashes one behind the other in commits that never end well: what was acknowledged last stays, or what one in flight was.
func TestCrashOnCrash(t *testing.T) {
	for prefix := range 301 {
		d, holds := grown(t, 5, 300, 3)
		version := uint64(3)
		for i := range 6 {
			s := open(t, d)
			next := settings(70+i, right(i))
			stage(t, s, next)
			wantCrash(t, d, s, i%2, prefix)
			d.Power()
			if _, ahead := wantEither(t, d, version, holds, next); !ahead {
				holds, version = next, version+1
			}
		}
		wantGoesOn(t, d, open(t, d))
	}
}

// FuzzCrash holds a Commit that crashes anywhere to what is ahead of it, or behind it, whole.
func FuzzCrash(f *testing.F) {
	f.Add(uint64(1), uint8(3), uint16(0), uint16(7))
	f.Add(uint64(2), uint8(0), uint16(1), uint16(300))
	f.Fuzz(func(t *testing.T, seed uint64, commits uint8, n, prefix uint16) {
		r := random(seed)
		d := disk.New(4+r.IntN(8), 512+r.IntN(100))
		s, holds := open(t, d), api.Config{}
		for range commits % 8 {
			holds = randomSettings(r, 3)
			commit(t, s, holds)
		}
		next, version := randomSettings(r, 3), s.Version()
		stage(t, s, next)
		d.Cut(int(n%6), int(prefix))
		got, err := s.Commit()
		d.Power()
		if err == api.OK && got == version+1 {
			wantFound(t, d, version+1, next)
		} else if err == api.ErrDiskDead {
			wantDown(t, s, version, holds)
			wantEither(t, d, version, holds, next)
		} else {
			t.Fatalf("%d, %v", got, err)
		}
		wantGoesOn(t, d, open(t, d))
	})
}
