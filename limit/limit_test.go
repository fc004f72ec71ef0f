package limit_test

import (
	"testing"

	"lych/limit"
)

// P20.1: the example.
func TestExample(t *testing.T) {
	b := limit.New(1, 2)
	wantTake(t, b, 1, true, 1)
	wantTake(t, b, 1, true, 0)
	wantTake(t, b, 1, false, 0)
	wantTick(t, b, 1)
	wantTake(t, b, 1, true, 0)
	wantTake(t, b, 1, false, 0)
}

// P20.1: a new bucket is full, whatever its rate.
func TestNewIsFull(t *testing.T) {
	for _, rate := range edges() {
		for _, burst := range edges() {
			b := limit.New(rate, burst)
			wantLevel(t, b, burst)
			wantTick(t, b, burst)
			wantTake(t, b, burst, true, 0)
		}
	}
}

// P20.1: as many are taken as there are, none of more.
func TestTake(t *testing.T) {
	for _, level := range edges() {
		for _, burst := range edges() {
			if burst < level {
				continue
			}
			wantTake(t, at(t, 1, burst, level), 0, true, level)
			wantTake(t, at(t, 1, burst, level), level, true, 0)
			if level > 0 {
				wantTake(t, at(t, 1, burst, level), 1, true, level-1)
				wantTake(t, at(t, 1, burst, level), level-1, true, 1)
			}
			if level < most {
				wantTake(t, at(t, 1, burst, level), level+1, false, level)
				wantTake(t, at(t, 1, burst, level), most, false, level)
			}
		}
	}
}

// P20.1: all is as it was behind a Take of more than there are: tokens, rate and burst.
func TestRefusedTakesNothing(t *testing.T) {
	b := at(t, 3, 10, 4)
	for _, n := range []uint32{5, 6, 10, 11, 1 << 31, most} {
		for range 3 {
			wantTake(t, b, n, false, 4)
		}
	}
	wantTick(t, b, 7)
	wantTake(t, b, 8, false, 7)
	wantTick(t, b, 10)
	wantTake(t, b, 11, false, 10)
	wantTick(t, b, 10)
	wantTake(t, b, 10, true, 0)
	for range 3 {
		wantTake(t, b, 1, false, 0)
		wantTake(t, b, most, false, 0)
		wantTake(t, b, 0, true, 0)
	}
	wantTick(t, b, 3)
}

// P20.1: a Tick is rate more, at most burst: of a full bucket, of an empty one, of those that lack rate, one fewer, one more.
func TestTick(t *testing.T) {
	for _, rate := range edges() {
		for _, burst := range edges() {
			wantTick(t, limit.New(rate, burst), burst)
			wantTick(t, at(t, rate, burst, 0), min(rate, burst))
			if rate > burst {
				continue
			}
			wantTick(t, at(t, rate, burst, burst-rate), burst)
			if rate > 0 {
				wantTick(t, at(t, rate, burst, burst-rate+1), burst)
			}
			if rate < burst {
				wantTick(t, at(t, rate, burst, burst-rate-1), burst-1)
			}
		}
	}
}

// P20.1: where level and rate together are more than can be told, Level is burst.
func TestTickDoesNotWrap(t *testing.T) {
	for _, c := range [][4]uint32{
		{most, most, most, most},
		{most, most, most - 1, most},
		{most, most, 1, most},
		{most, most, 0, most},
		{most - 1, most, 1, most},
		{most - 1, most, 0, most - 1},
		{most - 1, most, 2, most},
		{1, most, most, most},
		{1, most, most - 1, most},
		{2, most, most - 1, most},
		{1 << 31, most, 1 << 31, most},
		{1 << 31, most, 1<<31 - 1, most},
		{1 << 31, most, 1<<31 - 2, most - 1},
		{most, 10, 10, 10},
		{most, 10, 9, 10},
		{most, 10, 1, 10},
		{most, 10, 0, 10},
		{most - 5, 10, 7, 10},
		{most, 1 << 31, 1 << 30, 1 << 31},
		{1 << 31, 1<<31 + 1, 1 << 31, 1<<31 + 1},
	} {
		wantTick(t, at(t, c[0], c[1], c[2]), c[3])
	}
}

// P20.1: with rate 0 none ever comes, with burst 0 none ever lies there.
func TestNoughts(t *testing.T) {
	for _, burst := range edges() {
		b := limit.New(0, burst)
		for range 5 {
			wantTick(t, b, burst)
		}
		wantTake(t, b, burst, true, 0)
		for range 5 {
			wantTick(t, b, 0)
		}
	}
	for _, rate := range edges() {
		b := limit.New(rate, 0)
		for range 5 {
			wantTick(t, b, 0)
			wantTake(t, b, 0, true, 0)
			wantTake(t, b, 1, false, 0)
			wantTake(t, b, most, false, 0)
		}
	}
}

// P20.1: behind a Set there are at most as many as the new burst, and no more than there were.
func TestSet(t *testing.T) {
	for _, burst := range edges() {
		for _, level := range edges() {
			if level > burst {
				continue
			}
			for _, next := range edges() {
				for _, rate := range edges() {
					wantSet(t, at(t, 5, burst, level), rate, next, min(level, next))
				}
			}
			wantSet(t, at(t, 5, burst, level), 5, level, level)
			if level > 0 {
				wantSet(t, at(t, 5, burst, level), 5, level-1, level-1)
			}
			if level < most {
				wantSet(t, at(t, 5, burst, level), 5, level+1, level)
			}
		}
	}
}

// P20.1: what a lower burst took away stays away.
func TestSetDownAndUp(t *testing.T) {
	for _, rate := range []uint32{1, 7, most} {
		b := limit.New(rate, 100)
		wantSet(t, b, rate, 0, 0)
		wantTick(t, b, 0)
		wantTake(t, b, 0, true, 0)
		wantTake(t, b, 1, false, 0)
		wantSet(t, b, rate, 100, 0)
		wantTake(t, b, 1, false, 0)
		wantTick(t, b, min(rate, 100))
	}
	b := at(t, 5, 100, 60)
	wantSet(t, b, 5, 40, 40)
	wantSet(t, b, 5, 100, 40)
	wantTick(t, b, 45)
}

// P20.1: the ticks behind a Set go by the new rate and the new burst, and by nothing that was ahead of it.
func TestNextTickGoesByTheNew(t *testing.T) {
	b := at(t, 5, 100, 10)
	wantTick(t, b, 15)
	wantSet(t, b, 7, 100, 15)
	wantTick(t, b, 22)
	wantTick(t, b, 29)
	wantSet(t, b, 7, 33, 29)
	wantTick(t, b, 33)
	wantTick(t, b, 33)
	wantSet(t, b, 0, 200, 33)
	wantTick(t, b, 33)
	wantSet(t, b, 167, 200, 33)
	wantTick(t, b, 200)
	wantSet(t, b, most, most, 200)
	wantTick(t, b, most)
	wantSet(t, b, 1, 2, 2)
	wantTick(t, b, 2)
	wantTake(t, b, 2, true, 0)
	wantSet(t, b, 1, 2, 0)
	wantTick(t, b, 1)
}

// P20.1: Set goes by nothing that Ticks and Takes were: of two of the same level, told the same, both tell the same.
func TestSetOfAnySameLevel(t *testing.T) {
	for _, rate := range edges() {
		for _, burst := range edges() {
			b, other := at(t, 1, 100, 50), at(t, 9, most, 50)
			wantSet(t, b, rate, burst, min(50, burst))
			wantSet(t, other, rate, burst, min(50, burst))
			b.Tick()
			wantTick(t, other, b.Level())
		}
	}
}
