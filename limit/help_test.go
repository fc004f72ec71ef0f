package limit_test

import (
	"math/big"
	"math/rand/v2"
	"testing"

	"lych/limit"
)

// most is the greatest number of tokens that can be told.
const most = 1<<32 - 1

func random(seed uint64) *rand.Rand { return rand.New(rand.NewPCG(seed, 20)) }

// edges are numbers at the bounds of all, and some between them; rising.
func edges() []uint32 {
	return []uint32{0, 1, 2, 3, 1000, 1<<31 - 1, 1 << 31, 1<<31 + 1, most - 1, most}
}

// model is a bucket, told by plain means: numbers that nothing is too great for.
type model struct{ rate, burst, level *big.Int }

func number(n uint32) *big.Int { return new(big.Int).SetUint64(uint64(n)) }

func newModel(rate, burst uint32) *model {
	return &model{number(rate), number(burst), number(burst)}
}

func (m *model) take(n uint32) bool {
	left := new(big.Int).Sub(m.level, number(n))
	if left.Sign() < 0 {
		return false
	}
	m.level = left
	return true
}

// cut takes away what is above the burst.
func (m *model) cut() {
	if m.level.Cmp(m.burst) > 0 {
		m.level = new(big.Int).Set(m.burst)
	}
}

func (m *model) tick() {
	m.level = new(big.Int).Add(m.level, m.rate)
	m.cut()
}

func (m *model) set(rate, burst uint32) {
	m.rate, m.burst = number(rate), number(burst)
	m.cut()
}

// both is a Bucket and a model that is told the same; each call holds the one to the other.
type both struct {
	t *testing.T
	b *limit.Bucket
	m *model
}

func newBoth(t *testing.T, rate, burst uint32) both {
	t.Helper()
	b := both{t, limit.New(rate, burst), newModel(rate, burst)}
	b.level("New")
	return b
}

func (b both) level(what string) {
	b.t.Helper()
	if got, want := uint64(b.b.Level()), b.m.level.Uint64(); got != want {
		b.t.Fatalf("%s: Level() = %d; want %d, with rate %v and burst %v", what, got, want, b.m.rate, b.m.burst)
	}
}

func (b both) take(n uint32) {
	b.t.Helper()
	was := b.m.level
	if got, want := b.b.Take(n), b.m.take(n); got != want {
		b.t.Fatalf("Take(%d) = %v; want %v, of %v", n, got, want, was)
	}
	b.level("Take")
}

func (b both) tick() {
	b.t.Helper()
	b.b.Tick()
	b.m.tick()
	b.level("Tick")
}

func (b both) set(rate, burst uint32) {
	b.t.Helper()
	b.b.Set(rate, burst)
	b.m.set(rate, burst)
	b.level("Set")
}

// at tells a bucket of that rate and burst in which level tokens are.
func at(t *testing.T, rate, burst, level uint32) *limit.Bucket {
	t.Helper()
	b := limit.New(rate, burst)
	wantTake(t, b, burst-level, true, level)
	return b
}

func wantLevel(t *testing.T, b *limit.Bucket, want uint32) {
	t.Helper()
	for range 2 {
		if got := b.Level(); got != want {
			t.Fatalf("Level() = %d; want %d", got, want)
		}
	}
}

// wantTake holds Take to what it answers, and Level behind it.
func wantTake(t *testing.T, b *limit.Bucket, n uint32, want bool, level uint32) {
	t.Helper()
	if got := b.Take(n); got != want {
		t.Fatalf("Take(%d) = %v; want %v", n, got, want)
	}
	wantLevel(t, b, level)
}

// wantTick holds Level behind a Tick to what it is to be.
func wantTick(t *testing.T, b *limit.Bucket, level uint32) {
	t.Helper()
	b.Tick()
	wantLevel(t, b, level)
}

// wantSet holds Level behind a Set to what it is to be.
func wantSet(t *testing.T, b *limit.Bucket, rate, burst, level uint32) {
	t.Helper()
	b.Set(rate, burst)
	wantLevel(t, b, level)
}
