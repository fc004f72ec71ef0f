package ports_test

import (
	"math/rand/v2"
	"slices"
	"sync"
	"testing"

	"lych/api"
	"lych/ports"
)

// DOC.md, what holds everywhere, 3: Take changes nothing that it is handed, nor the room behind it, and keeps nothing.
func TestTakeKeepsNothing(t *testing.T) {
	whole := []uint32{9, 9, 8, 7, 6, 6}
	before := slices.Clone(whole)
	p := ports.New()
	pool := whole[1:4]
	for _, ip := range []uint32{9, 8, 7} {
		wantTake(t, p, 17, pool, 4000, 4001, 4000, point(ip, 4000))
	}
	wantNone(t, p, 17, pool, 4000, 4001, 4000)
	wantNone(t, p, 17, pool, 4001, 4000, 4000)
	if !slices.Equal(whole, before) {
		t.Fatalf("changed: %v", whole)
	}
	clear(whole)
	for _, ip := range []uint32{9, 8, 7} {
		wantErr(t, p, p.Hold(17, point(ip, 4000)), api.ErrPortHeld, 17, point(ip, 4000), true, 3)
	}
	wantTake(t, p, 17, pool, 4000, 4001, 4000, point(0, 4000))
	wantNone(t, p, 17, pool, 4000, 4001, 4000)
	if !slices.Equal(whole, make([]uint32, 6)) {
		t.Fatalf("kept: %v", whole)
	}
}

// DOC.md, what holds everywhere, 4: a call that is refused changes nothing.
func TestRefusedChangesNothing(t *testing.T) {
	r := random(6)
	b := newBoth(t)
	for range 3000 {
		b.hold(6, point(uint32(r.IntN(3)), r.IntN(3000)))
	}
	for range 20000 {
		at := point(uint32(r.IntN(3)), r.IntN(3000))
		if b.m[one{6, at}] {
			b.hold(6, at)
		} else {
			b.free(6, at)
			b.free(17, at)
		}
		b.take(6, []uint32{0, 1, 2}, 2000, 1000, r.IntN(65536))
		b.take(6, nil, 0, 65535, r.IntN(65536))
		b.take(6, []uint32{0, 1, 2}, 1000, 1023, 1024+r.IntN(60000))
	}
	b.all([]byte{6, 17}, []uint32{0, 1, 2})
}

// DOC.md, what holds everywhere, 8: two Ports have nothing in common.
func TestPortsAreApart(t *testing.T) {
	p, other := ports.New(), ports.New()
	pool := []uint32{5, 6}
	wantTake(t, p, 17, pool, 1024, 65535, 4000, point(5, 1024))
	wantTake(t, other, 17, pool, 1024, 65535, 4000, point(5, 1024))
	wantErr(t, p, p.Hold(17, point(5, 1026)), api.OK, 17, point(5, 1026), true, 2)
	wantTake(t, other, 17, pool, 1024, 65535, 4000, point(5, 1026))
	wantErr(t, p, p.Free(17, point(5, 1024)), api.OK, 17, point(5, 1024), false, 1)
	wantErr(t, other, other.Hold(17, point(5, 1024)), api.ErrPortHeld, 17, point(5, 1024), true, 2)
}

// step does one thing at random, about the bounds of the classes, of words and of blocks.
func step(b both, r *rand.Rand) {
	b.t.Helper()
	near := []int{0, 64, 1010, 1024, 2040, 65520}
	port := func() int { return min(near[r.IntN(len(near))]+r.IntN(24), 65535) }
	proto := []byte{0, 1, 6, 17, 255}[r.IntN(5)]
	at := point(addresses()[r.IntN(4)], port())
	switch r.IntN(6) {
	case 0:
		b.hold(proto, at)
	case 1, 2:
		b.free(proto, at)
	default:
		var pool []uint32
		for range r.IntN(5) {
			pool = append(pool, addresses()[r.IntN(4)])
		}
		lo := port()
		hi := port()
		if r.IntN(3) > 0 {
			hi = min(lo+r.IntN(100), 65535)
		}
		b.take(proto, pool, lo, hi, port())
	}
}

// P17.1: any calls in any order, held to a model that goes through ports one by one.
func TestAnyCalls(t *testing.T) {
	r := random(7)
	for range 60 {
		b := newBoth(t)
		for range 1500 {
			step(b, r)
		}
		for x := range b.m {
			b.hold(x.proto, x.at)
		}
		for x := range b.m {
			b.free(x.proto, x.at)
		}
		b.all([]byte{6}, addresses()[:4])
	}
}

// DOC.md, what holds everywhere, 8: what is answered hangs on nothing that is asked of others at the same time.
func TestSameAgain(t *testing.T) {
	play := func() (list []api.Point) {
		r := random(8)
		p := ports.New()
		for range 3000 {
			pool := addresses()[:1+r.IntN(4)]
			at, _ := p.Take(17, pool, 1000, uint16(1000+r.IntN(200)), uint16(r.IntN(2000)))
			list = append(list, at)
			if r.IntN(3) == 0 {
				p.Free(17, list[r.IntN(len(list))])
			}
		}
		return list
	}
	want := play()
	var all sync.WaitGroup
	for range 8 {
		all.Go(func() {
			if !slices.Equal(play(), want) {
				t.Error("other answers")
			}
		})
	}
	all.Wait()
}

// DOC.md, what holds everywhere, 1 and 10: pools of many addresses are gone through, soon; no limit of api's counts here.
func TestGreatPool(t *testing.T) {
	const many = 1 << 18
	p := ports.New()
	var pool []uint32
	for i := range many {
		pool = append(pool, uint32(many-i))
		p.Hold(6, point(uint32(many-i), 4000))
	}
	wantNone(t, p, 6, pool, 4000, 4000, 4000)
	wantTake(t, p, 6, append(pool, 0xffffffff), 4000, 4000, 4000, point(0xffffffff, 4000))
	wantTake(t, p, 6, pool, 4000, 4002, 4000, point(many, 4002))
	full := make([]uint32, many/16)
	for port := range 512 {
		p.Hold(6, point(0, 2*port))
	}
	wantNone(t, p, 6, full, 0, 65535, 80)
	wantTake(t, p, 6, append(full, 1), 0, 65535, 80, point(1, 0))
}

// FuzzPorts makes calls of any bytes and holds them to the model.
func FuzzPorts(f *testing.F) {
	f.Add([]byte{})
	f.Add([]byte("\x00\x11\x05\x04\x00\x04\x40\x0f\xa0\x01\x11\x05\x04\x00\x00\x00\x00\x00\x02\x11\x05\x04\x00\x00\x00\x00\x00"))
	f.Add([]byte("\x00\x06\x00\xff\xff\x00\x00\x0f\xa0\x00\x06\x00\x03\xff\xff\xff\x00\x01\x00\x06\x00\x03\xff\xff\xff\x04\x01"))
	f.Fuzz(func(t *testing.T, bytes []byte) {
		b := newBoth(t)
		for row := range slices.Chunk(bytes, 9) {
			if len(row) < 9 {
				break
			}
			two := func(i int) int { return int(row[i])<<8 | int(row[i+1]) }
			at := point(uint32(row[2]%4), two(3))
			switch row[0] % 3 {
			case 0:
				b.take(row[1], []uint32{at.Ip, uint32(row[0] / 64)}[:row[0]/3%3], two(3), two(5), two(7))
			case 1:
				b.hold(row[1], at)
			case 2:
				b.free(row[1], at)
			}
		}
	})
}
