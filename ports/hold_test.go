package ports_test

import (
	"slices"
	"testing"

	"lych/api"
	"lych/ports"
)

// P17.1: of new ones none is held, and none can be freed.
func TestNewHoldsNone(t *testing.T) {
	b := newBoth(t)
	b.all([]byte{0, 1, 6, 17, 255}, []uint32{0, 5, 0xffffffff})
	for _, ip := range addresses() {
		for _, port := range edges() {
			b.free(0, point(ip, port))
			b.free(17, point(ip, port))
		}
	}
}

// P17.1: any point can be held, once, and freed, once: also such as no Take of right settings gives out.
func TestHoldAndFree(t *testing.T) {
	p := ports.New()
	for _, proto := range []byte{0, 1, 6, 17, 128, 255} {
		for _, ip := range addresses() {
			for _, port := range edges() {
				at := point(ip, port)
				wantErr(t, p, p.Free(proto, at), api.ErrPortHeld, proto, at, false, 0)
				wantErr(t, p, p.Hold(proto, at), api.OK, proto, at, true, 1)
				wantErr(t, p, p.Hold(proto, at), api.ErrPortHeld, proto, at, true, 1)
				wantErr(t, p, p.Hold(proto, at), api.ErrPortHeld, proto, at, true, 1)
				wantErr(t, p, p.Free(proto, at), api.OK, proto, at, false, 0)
				wantErr(t, p, p.Free(proto, at), api.ErrPortHeld, proto, at, false, 0)
				wantErr(t, p, p.Hold(proto, at), api.OK, proto, at, true, 1)
				wantErr(t, p, p.Free(proto, at), api.OK, proto, at, false, 0)
			}
		}
	}
}

// P17.1: a point that Take gave out is held as any other one.
func TestHoldOfTaken(t *testing.T) {
	p := ports.New()
	at := point(5, 1024)
	wantTake(t, p, 17, []uint32{5}, 1024, 65535, 4000, at)
	wantErr(t, p, p.Hold(17, at), api.ErrPortHeld, 17, at, true, 1)
	wantErr(t, p, p.Free(17, at), api.OK, 17, at, false, 0)
	wantErr(t, p, p.Free(17, at), api.ErrPortHeld, 17, at, false, 0)
	wantErr(t, p, p.Hold(17, at), api.OK, 17, at, true, 1)
	wantTake(t, p, 17, []uint32{5}, 1024, 65535, 4000, point(5, 1026))
	wantErr(t, p, p.Free(17, at), api.OK, 17, at, false, 1)
	wantTake(t, p, 17, []uint32{5}, 1024, 65535, 4000, at)
}

// P17.1: neither Hold nor Free does anything to other points: of another address, port or protocol.
func TestOnePointAlone(t *testing.T) {
	for _, ip := range addresses() {
		for _, port := range edges() {
			at := point(ip, port)
			free, held := ports.New(), ports.New()
			var others []one
			for bit := range 32 {
				others = append(others, one{6, point(ip^1<<bit, port)}, one{6, point(ip, port^1<<(bit%16))}, one{6 ^ 1<<(bit%8), at}, one{6, point(ip+uint32(port)>>bit+1, port)})
			}
			for _, x := range others {
				held.Hold(x.proto, x.at)
			}
			count := held.Count()
			wantErr(t, held, held.Hold(6, at), api.OK, 6, at, true, count+1)
			wantErr(t, free, free.Hold(6, at), api.OK, 6, at, true, 1)
			for _, x := range others {
				wantErr(t, held, held.Hold(x.proto, x.at), api.ErrPortHeld, x.proto, x.at, true, count+1)
				wantErr(t, free, free.Free(x.proto, x.at), api.ErrPortHeld, x.proto, x.at, false, 1)
			}
			wantErr(t, held, held.Free(6, at), api.OK, 6, at, false, count)
			for _, x := range others {
				wantErr(t, held, held.Hold(x.proto, x.at), api.ErrPortHeld, x.proto, x.at, true, count)
			}
		}
	}
}

// P17.1: all ports of an address are held one by one, and freed in another order.
func TestEveryPort(t *testing.T) {
	b := newBoth(t)
	for port := range 65536 {
		b.hold(17, point(5, port))
	}
	b.all([]byte{17, 6}, []uint32{5, 4})
	for i, port := range random(2).Perm(65536) {
		b.hold(17, point(5, port))
		b.free(17, point(5, port))
		b.free(17, point(5, port))
		if i == 40000 {
			b.all([]byte{17}, []uint32{5})
		}
	}
	b.all([]byte{17, 6}, []uint32{5, 4})
}

// P17.1: each protocol holds its points by itself, whatever its number.
func TestEveryProtocol(t *testing.T) {
	p := ports.New()
	pool := []uint32{5}
	for proto := range 256 {
		wantTake(t, p, byte(proto), pool, 1, 65535, 80, point(5, 2))
		wantTake(t, p, byte(proto), pool, 1, 65535, 8080, point(5, 1024))
		wantErr(t, p, p.Hold(byte(proto), point(5, 1026)), api.OK, byte(proto), point(5, 1026), true, 3*proto+3)
	}
	for i, proto := range random(3).Perm(256) {
		wantErr(t, p, p.Hold(byte(proto), point(5, 1024)), api.ErrPortHeld, byte(proto), point(5, 1024), true, 768-i)
		wantTake(t, p, byte(proto), pool, 1, 65535, 8080, point(5, 1028))
		wantErr(t, p, p.Free(byte(proto), point(5, 1024)), api.OK, byte(proto), point(5, 1024), false, 768-i)
		wantErr(t, p, p.Free(byte(proto), point(5, 1024)), api.ErrPortHeld, byte(proto), point(5, 1024), false, 768-i)
		wantErr(t, p, p.Free(byte(proto), point(5, 1026)), api.OK, byte(proto), point(5, 1026), false, 767-i)
	}
	for proto := range 256 {
		wantNone(t, p, byte(proto), pool, 1028, 1028, 8080)
		wantTake(t, p, byte(proto), pool, 1024, 65535, 8080, point(5, 1024))
	}
}

// P17.1: many points of many addresses are held at once.
func TestManyPoints(t *testing.T) {
	const many = 1 << 17
	p := ports.New()
	at := func(i int) (byte, api.Point) { return byte(i % 7), point(uint32(i)*0x9e3779b1, i*31) }
	for i := range many {
		proto, x := at(i)
		wantErr(t, p, p.Hold(proto, x), api.OK, proto, x, true, i+1)
	}
	order := random(4).Perm(many)
	for n, i := range order[:many/2] {
		proto, x := at(i)
		wantErr(t, p, p.Hold(proto, x), api.ErrPortHeld, proto, x, true, many-n)
		wantErr(t, p, p.Free(proto, x), api.OK, proto, x, false, many-n-1)
	}
	for n, i := range order {
		proto, x := at(i)
		if p.Held(proto, x) != (n >= many/2) {
			t.Fatalf("%d, %v: %v", proto, x, p.Held(proto, x))
		}
	}
}

// P17.2: no point is given out twice while it is held: whatever pools, ranges and wants it is asked by, among points that are held and freed by hand.
func TestNoneTwice(t *testing.T) {
	r := random(5)
	p := ports.New()
	out := map[one]int{}
	var list []one
	for range 200000 {
		proto := byte(r.IntN(2))
		pool := slices.Clone(addresses()[:r.IntN(5)])
		r.Shuffle(len(pool), func(i, k int) { pool[i], pool[k] = pool[k], pool[i] })
		lo := 1000 + r.IntN(100)
		at, err := p.Take(proto, pool, uint16(lo), uint16(lo+r.IntN(100)), uint16(1000+r.IntN(50)))
		x := one{proto, at}
		if err == api.OK {
			if out[x] != 0 {
				t.Fatalf("%v twice", x)
			}
			out[x] = 1
			list = append(list, x)
		}
		if x := (one{proto, point(addresses()[r.IntN(5)], 1000+r.IntN(200))}); r.IntN(4) == 0 && p.Hold(proto, x.at) == api.OK {
			out[x] = 1
			list = append(list, x)
		}
		if len(list) > 0 && r.IntN(3) > 0 {
			i := r.IntN(len(list))
			if p.Free(list[i].proto, list[i].at) != api.OK {
				t.Fatalf("%v wasn't held", list[i])
			}
			delete(out, list[i])
			list = slices.Delete(list, i, i+1)
		}
		if p.Count() != len(out) {
			t.Fatalf("Count() = %d; want %d", p.Count(), len(out))
		}
	}
}
