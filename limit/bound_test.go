package limit_test

import (
	"math/rand/v2"
	"testing"

	"lych/limit"
)

// taken takes by a rule until ticks have gone by, ask telling how often it asks in a tick and of how many, and tells how many were taken in all.
func taken(b *limit.Bucket, ticks int, ask func() (times int, n uint32)) (sum uint64) {
	for tick := range ticks + 1 {
		if tick > 0 {
			b.Tick()
		}
		times, n := ask()
		for range times {
			if b.Take(n) {
				sum += uint64(n)
			}
		}
	}
	return sum
}

// wantBound holds what was taken in so many ticks to burst and as often rate.
func wantBound(t *testing.T, sum uint64, ticks int, rate, burst uint32) {
	t.Helper()
	if bound := uint64(burst) + uint64(ticks)*uint64(rate); sum > bound {
		t.Fatalf("%d taken in %d ticks, with rate %d and burst %d; at most %d", sum, ticks, rate, burst, bound)
	}
}

// asks are rules by which one may ask: one by one, too many, all at once, at random, by halves, seldom.
func asks(r *rand.Rand, rate, burst uint32) []func() (int, uint32) {
	seldom := 0
	return []func() (int, uint32){
		func() (int, uint32) { return 300, 1 },
		func() (int, uint32) { return 3, most },
		func() (int, uint32) { return 3, burst },
		func() (int, uint32) { return 3, rate },
		func() (int, uint32) { return 9, burst/2 + 1 },
		func() (int, uint32) { return 9, rate/2 + 1 },
		func() (int, uint32) { return r.IntN(20), r.Uint32() },
		func() (int, uint32) { return r.IntN(20), uint32(r.Uint64N(uint64(burst) + 2)) },
		func() (int, uint32) { return r.IntN(20), uint32(r.Uint64N(uint64(rate) + 2)) },
		func() (int, uint32) { return r.IntN(50), uint32(r.IntN(5)) },
		func() (int, uint32) {
			seldom++
			return seldom % 7 / 6 * 100, max(burst/50, 1)
		},
	}
}

// P20.2: in n ticks no more than burst and n times rate are taken, however it is asked for.
func TestNoMoreThanTheBound(t *testing.T) {
	r := random(1)
	for _, rate := range []uint32{0, 1, 2, 10, 1000, 1 << 31, most - 1, most} {
		for _, burst := range []uint32{0, 1, 2, 10, 1000, 1 << 31, most - 1, most} {
			for _, ask := range asks(r, rate, burst) {
				for _, ticks := range []int{0, 1, 2, 50} {
					wantBound(t, taken(limit.New(rate, burst), ticks, ask), ticks, rate, burst)
				}
			}
		}
	}
}

// P20.2: of every row of ticks within a longer one too, wherever it begins.
func TestNoMoreThanTheBoundAnywhere(t *testing.T) {
	r := random(2)
	for range 60 {
		rate, burst := uint32(r.IntN(20)), uint32(r.IntN(60))
		b := limit.New(rate, burst)
		sums := []uint64{0} // how many were taken ahead of each tick
		for range 80 {
			sum := sums[len(sums)-1]
			for range r.IntN(8) {
				if n := uint32(r.IntN(30)); b.Take(n) {
					sum += uint64(n)
				}
			}
			sums = append(sums, sum)
			b.Tick()
		}
		for from := range sums {
			for to := from + 1; to < len(sums); to++ {
				wantBound(t, sums[to]-sums[from], to-from-1, rate, burst)
			}
		}
	}
}

// P20.2: just as many are taken by one who takes all there are.
func TestJustTheBound(t *testing.T) {
	for _, rate := range []uint32{0, 1, 2, 10, 1000} {
		for _, burst := range []uint32{1000, 1001, 1 << 20} {
			for _, ticks := range []int{0, 1, 2, 100} {
				b := limit.New(rate, burst)
				sum := uint64(0)
				for tick := range ticks + 1 {
					if tick > 0 {
						b.Tick()
					}
					n := b.Level()
					wantTake(t, b, n, true, 0)
					sum += uint64(n)
				}
				if want := uint64(burst) + uint64(ticks)*uint64(rate); sum != want {
					t.Fatalf("%d taken in %d ticks, with rate %d and burst %d; want %d", sum, ticks, rate, burst, want)
				}
			}
		}
	}
}
