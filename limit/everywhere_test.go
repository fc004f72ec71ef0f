package limit_test

import (
	"encoding/binary"
	"math/rand/v2"
	"slices"
	"sync"
	"testing"

	"lych/limit"
)

// DOC.md, what holds everywhere, 8: two buckets have nothing in common.
func TestBucketsAreApart(t *testing.T) {
	b, other := limit.New(1, 10), limit.New(1, 10)
	wantTake(t, b, 4, true, 6)
	wantLevel(t, other, 10)
	wantTake(t, other, 9, true, 1)
	wantLevel(t, b, 6)
	wantTick(t, b, 7)
	wantLevel(t, other, 1)
	wantSet(t, other, 5, 20, 1)
	wantTick(t, b, 8)
	wantTick(t, other, 6)
	wantSet(t, b, 0, 2, 2)
	wantTick(t, other, 11)
	wantTick(t, b, 2)
	wantLevel(t, limit.New(1, 10), 10)
}

// few tells a number that meets others often, or one near a bound, or any.
func few(r *rand.Rand) uint32 {
	switch r.IntN(4) {
	case 0:
		return edges()[r.IntN(len(edges()))]
	case 1:
		return r.Uint32()
	default:
		return uint32(r.IntN(12))
	}
}

// near tells a number at most two off another one.
func near(r *rand.Rand, n uint32) uint32 { return n + uint32(r.IntN(5)) - 2 }

// do does one thing at random.
func do(b both, r *rand.Rand) {
	b.t.Helper()
	switch r.IntN(12) {
	case 0, 1:
		b.take(few(r))
	case 2, 3:
		b.take(near(r, b.b.Level()))
	case 4:
		b.set(few(r), few(r))
	case 5:
		b.set(few(r), near(r, b.b.Level()))
	default:
		b.tick()
	}
}

// P20.1: Take, Tick and Set in long rows, held to a model whose numbers don't wrap.
func TestAnyCalls(t *testing.T) {
	r := random(3)
	for range 300 {
		b := newBoth(t, few(r), few(r))
		for range 500 {
			do(b, r)
		}
	}
}

// tokens is a bucket of tokens that lie there one by one.
type tokens struct {
	lie         []struct{}
	rate, burst int
}

// more lays n more there, one by one, while there is room.
func (k *tokens) more(n int) {
	for range n {
		if len(k.lie) < k.burst {
			k.lie = append(k.lie, struct{}{})
		}
	}
}

// P20.1: small numbers, held to tokens that are laid and taken one by one.
func TestTokensOneByOne(t *testing.T) {
	r := random(4)
	for range 200 {
		k := &tokens{rate: r.IntN(6), burst: r.IntN(25)}
		k.more(k.burst)
		b := limit.New(uint32(k.rate), uint32(k.burst))
		for range 300 {
			switch r.IntN(10) {
			case 0:
				k.rate, k.burst = r.IntN(6), r.IntN(25)
				for len(k.lie) > k.burst {
					k.lie = k.lie[1:]
				}
				wantSet(t, b, uint32(k.rate), uint32(k.burst), uint32(len(k.lie)))
			case 1, 2, 3, 4:
				k.more(k.rate)
				wantTick(t, b, uint32(len(k.lie)))
			default:
				n := r.IntN(9)
				enough := n <= len(k.lie)
				if enough {
					k.lie = k.lie[n:]
				}
				wantTake(t, b, uint32(n), enough, uint32(len(k.lie)))
			}
		}
	}
}

// DOC.md, what holds everywhere, 1 and 10: very many calls hold up none.
func TestVeryMany(t *testing.T) {
	b := limit.New(3, 1<<31)
	for range 1 << 20 {
		b.Take(4)
		b.Tick()
	}
	wantLevel(t, b, 1<<31-1<<20)
}

// DOC.md, what holds everywhere, 8: what is answered hangs on nothing that is asked of others at the same time.
func TestSameAgain(t *testing.T) {
	play := func() (all []uint32) {
		r := random(5)
		b := limit.New(r.Uint32(), r.Uint32())
		for range 3000 {
			switch r.IntN(8) {
			case 0:
				b.Set(r.Uint32()>>4, r.Uint32())
			case 1, 2:
				b.Tick()
			default:
				b.Take(r.Uint32() >> 2)
			}
			all = append(all, b.Level())
		}
		return all
	}
	want := play()
	var all sync.WaitGroup
	for range 8 {
		all.Go(func() {
			if !slices.Equal(play(), want) {
				t.Error("other answers")
			}
		})
	}
	all.Wait()
}

// FuzzBucket makes calls of any bytes and holds them to the model.
func FuzzBucket(f *testing.F) {
	f.Add([]byte{})
	f.Add([]byte("\x00\x00\x00\x00\x01\x00\x00\x00\x02\x01\x00\x00\x00\x01\x00\x00\x00\x00\x02\x00\x00\x00\x00\x00\x00\x00\x00"))
	f.Fuzz(func(t *testing.T, bytes []byte) {
		b := newBoth(t, 1, 2)
		for row := range slices.Chunk(bytes, 9) {
			if len(row) < 9 {
				break
			}
			n, m := binary.BigEndian.Uint32(row[1:]), binary.BigEndian.Uint32(row[5:])
			switch row[0] % 3 {
			case 0:
				b.set(n, m)
			case 1:
				b.take(n)
			default:
				b.tick()
			}
		}
	})
}
