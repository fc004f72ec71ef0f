package ports_test

import (
	"slices"
	"testing"

	"lych/api"
	"lych/ports"
)

// The errors' numbers, as the chapter tells them.
func TestNumbers(t *testing.T) {
	if api.ErrPortNone != 120 || api.ErrPortHeld != 121 {
		t.Error(api.ErrPortNone, api.ErrPortHeld)
	}
}

// The chapter's example.
func TestExample(t *testing.T) {
	p := ports.New()
	pool := []uint32{0x05050505}
	wantTake(t, p, api.ProtoUdp, pool, 1024, 65535, 4000, point(pool[0], 1024))
	wantTake(t, p, api.ProtoUdp, pool, 1024, 65535, 4000, point(pool[0], 1026))
}

// P17.1: an empty pool has no port.
func TestTakeOfEmptyPool(t *testing.T) {
	p := ports.New()
	for _, pool := range [][]uint32{nil, {}, []uint32{5, 6}[:0]} {
		for _, want := range wants() {
			wantNone(t, p, api.ProtoUdp, pool, 0, 65535, want)
		}
	}
	wantErr(t, p, p.Hold(17, point(0, 0)), api.OK, 17, point(0, 0), true, 1)
	wantNone(t, p, api.ProtoUdp, nil, 0, 65535, 0)
}

// P17.1: the first port that is given out of a range, class by class; -1: there is none of the class.
func TestTakeOfRange(t *testing.T) {
	type row struct{ lo, hi, lowEven, lowOdd, highEven, highOdd int }
	for _, x := range []row{
		{0, 65535, 0, 1, 1024, 1025},
		{1, 65535, 2, 1, 1024, 1025},
		{2, 65534, 2, 3, 1024, 1025},
		{1024, 65535, -1, -1, 1024, 1025},
		{1025, 65535, -1, -1, 1026, 1025},
		{1026, 65535, -1, -1, 1026, 1027},
		{1023, 65535, -1, 1023, 1024, 1025},
		{1022, 65535, 1022, 1023, 1024, 1025},
		{1, 1023, 2, 1, -1, -1},
		{0, 1022, 0, 1, -1, -1},
		{1, 1024, 2, 1, 1024, -1},
		{1, 1025, 2, 1, 1024, 1025},
		{1023, 1024, -1, 1023, 1024, -1},
		{1022, 1025, 1022, 1023, 1024, 1025},
		{0, 0, 0, -1, -1, -1},
		{1, 1, -1, 1, -1, -1},
		{63, 64, 64, 63, -1, -1},
		{1022, 1022, 1022, -1, -1, -1},
		{1023, 1023, -1, 1023, -1, -1},
		{1024, 1024, -1, -1, 1024, -1},
		{1025, 1025, -1, -1, -1, 1025},
		{5001, 5002, -1, -1, 5002, 5001},
		{65534, 65534, -1, -1, 65534, -1},
		{65535, 65535, -1, -1, -1, 65535},
		{65534, 65535, -1, -1, 65534, 65535},
		{1, 0, -1, -1, -1, -1},
		{2, 0, -1, -1, -1, -1},
		{1024, 1023, -1, -1, -1, -1},
		{1025, 1022, -1, -1, -1, -1},
		{65535, 0, -1, -1, -1, -1},
		{65535, 65534, -1, -1, -1, -1},
		{65535, 1024, -1, -1, -1, -1},
		{1023, 0, -1, -1, -1, -1},
		{40, 20, -1, -1, -1, -1},
		{5000, 2000, -1, -1, -1, -1},
		{5000, 10, -1, -1, -1, -1},
	} {
		for _, want := range wants() {
			first := []int{x.lowEven, x.lowOdd, x.highEven, x.highOdd}[want%2+2*min(want/1024, 1)]
			p := ports.New()
			if first < 0 {
				wantNone(t, p, api.ProtoTcp, []uint32{7, 8}, x.lo, x.hi, want)
			} else {
				wantTake(t, p, api.ProtoTcp, []uint32{7, 8}, x.lo, x.hi, want, point(7, first))
			}
		}
	}
}

// P17.1: each port is given out where it alone may be, to those who want its class, and to no others.
func TestTakeOfEachPort(t *testing.T) {
	p := ports.New()
	for port := range 65536 {
		for _, want := range []int{0, 1, 1022, 1023, 1024, 1025, 65534, 65535} {
			if !alike(port, want) {
				wantNone(t, p, api.ProtoUdp, []uint32{9}, port, port, want)
			}
		}
		wantTake(t, p, api.ProtoUdp, []uint32{9}, port, port, port, point(9, port))
		wantNone(t, p, api.ProtoUdp, []uint32{9}, port, port, port)
	}
	if p.Count() != 65536 {
		t.Fatal(p.Count())
	}
}

// P17.1: of every lo, and of every hi, the first of the class.
func TestTakeOfEachBound(t *testing.T) {
	p := ports.New()
	for port := range 65536 {
		for _, want := range []int{0, 1, 4000, 4001} {
			at, err := p.Take(6, []uint32{3}, uint16(port), 65535, uint16(want))
			first := max(port, 1024*min(want/1024, 1))
			first += (first + want) % 2
			if none := want < 1024 && first > 1023 || first > 65535; none != (err == api.ErrPortNone) || !none && at != point(3, first) {
				t.Fatalf("from %d, want %d: %v, %v", port, want, at, err)
			}
			p.Free(6, at)
			at, err = p.Take(6, []uint32{3}, 0, uint16(port), uint16(want))
			first = 1024*min(want/1024, 1) + want%2
			if none := first > port; none != (err == api.ErrPortNone) || !none && at != point(3, first) {
				t.Fatalf("to %d, want %d: %v, %v", port, want, at, err)
			}
			p.Free(6, at)
		}
	}
}

// P17.1: ranges from each edge to each other one, where all is free and where the first two of the class aren't.
func TestTakeBetweenEdges(t *testing.T) {
	for _, lo := range edges() {
		for _, hi := range edges() {
			for _, want := range []int{0, 1023, 1024, 65535} {
				p := ports.New()
				list := classPorts(lo, hi, want)
				for _, port := range list[:min(len(list), 3)] {
					wantTake(t, p, api.ProtoIcmp, []uint32{1}, lo, hi, want, point(1, port))
				}
				if len(list) <= 3 {
					wantNone(t, p, api.ProtoIcmp, []uint32{1}, lo, hi, want)
				}
			}
		}
	}
}

// P17.1: of a class each port is given out once, the lowest first, address by address as they stand in the pool; then none is, and just these are held.
func TestTakeAllOfClass(t *testing.T) {
	pool := []uint32{9, 0xffffffff, 0, 9, 5}
	for _, x := range [][2]int{{0, 65535}, {1, 3000}, {1024, 3000}, {1, 1023}, {1000, 1050}, {1023, 1024}, {60, 70}, {65000, 65535}, {3000, 2000}} {
		for _, want := range []int{80, 1023, 1024, 4001} {
			b := newBoth(t)
			for _, ip := range []uint32{9, 0xffffffff, 0, 5} {
				for _, port := range classPorts(x[0], x[1], want) {
					wantTake(t, b.p, api.ProtoUdp, pool, x[0], x[1], want, point(ip, port))
					b.m[one{api.ProtoUdp, point(ip, port)}] = true
				}
			}
			wantNone(t, b.p, api.ProtoUdp, pool, x[0], x[1], want)
			wantNone(t, b.p, api.ProtoUdp, pool, x[0], x[1], want^2)
			b.all([]byte{api.ProtoUdp}, []uint32{9, 0xffffffff, 0, 5, 8})
			b.all([]byte{api.ProtoTcp}, []uint32{9})
			b.count(api.ProtoUdp, point(9, 0))
		}
	}
}

// P17.1: what one class has taken another one's ports don't hang on.
func TestClassesAreApart(t *testing.T) {
	p := ports.New()
	pool := []uint32{2}
	for i := range 512 {
		wantTake(t, p, 17, pool, 0, 65535, 22, point(2, 2*i))
		wantTake(t, p, 17, pool, 0, 65535, 4001, point(2, 1025+2*i))
	}
	wantNone(t, p, 17, pool, 0, 65535, 22)
	for i := range 512 {
		wantTake(t, p, 17, pool, 0, 65535, 21, point(2, 1+2*i))
		wantTake(t, p, 17, pool, 0, 65535, 4000, point(2, 1024+2*i))
	}
	wantNone(t, p, 17, pool, 0, 65535, 21)
	wantTake(t, p, 17, pool, 0, 65535, 4000, point(2, 2048))
	wantTake(t, p, 17, pool, 0, 65535, 4001, point(2, 2049))
}

// P17.1: of many addresses the first that has a free one: as they stand, not as they are numbered, and a higher port at an earlier one comes ahead of a lower one at a later.
func TestTakeGoesThroughPool(t *testing.T) {
	p := ports.New()
	pool := addresses()
	for _, ip := range pool {
		wantTake(t, p, 6, pool, 5000, 5001, 4000, point(ip, 5000))
	}
	wantNone(t, p, 6, pool, 5000, 5001, 4000)
	wantTake(t, p, 6, pool, 5000, 5002, 4000, point(pool[0], 5002))
	wantTake(t, p, 6, pool, 1024, 5002, 4000, point(pool[0], 1024))
	slices.Reverse(pool)
	wantTake(t, p, 6, pool, 1024, 5002, 4000, point(pool[0], 1024))
	for i, ip := range pool[1 : len(pool)-1] {
		wantTake(t, p, 6, pool[i+1:], 1024, 5000, 4000, point(ip, 1024))
	}
}

// P17.1: one address twice in the pool is gone through as if it stood there once.
func TestTakeOfOneAddressTwice(t *testing.T) {
	p := ports.New()
	pool := []uint32{4, 4, 3, 4, 3}
	for _, ip := range []uint32{4, 3} {
		for port := 1024; port <= 1030; port += 2 {
			wantTake(t, p, 17, pool, 1024, 1031, 1024, point(ip, port))
		}
	}
	wantNone(t, p, 17, pool, 1024, 1031, 1024)
	wantErr(t, p, p.Free(17, point(4, 1030)), api.OK, 17, point(4, 1030), false, 7)
	wantErr(t, p, p.Free(17, point(3, 1024)), api.OK, 17, point(3, 1024), false, 6)
	wantTake(t, p, 17, pool, 1024, 1031, 1024, point(4, 1030))
	wantTake(t, p, 17, pool, 1024, 1031, 1024, point(3, 1024))
	wantNone(t, p, 17, pool, 1024, 1031, 1024)
}

// P17.1: what is held by hand isn't given out: all but one, wherever that one is.
func TestTakeOfTheLastFree(t *testing.T) {
	for _, left := range edges() {
		p := ports.New()
		for port := range 65536 {
			if port != left {
				p.Hold(1, point(8, port))
			}
		}
		for _, want := range wants() {
			if !alike(left, want) {
				wantNone(t, p, 1, []uint32{8}, 0, 65535, want)
				continue
			}
			if left > 0 {
				wantNone(t, p, 1, []uint32{8}, 0, left-1, want)
			}
			if left < 65535 {
				wantNone(t, p, 1, []uint32{8}, left+1, 65535, want)
			}
			wantTake(t, p, 1, []uint32{8}, 0, 65535, want, point(8, left))
			wantNone(t, p, 1, []uint32{8}, 0, 65535, want)
			p.Free(1, point(8, left))
		}
	}
}

// P17.1: any held by hand, the others are given out in order.
func TestTakeAroundHeld(t *testing.T) {
	r := random(1)
	for _, share := range []int{2, 10, 100} {
		b := newBoth(t)
		for port := range 65536 {
			if r.IntN(100) >= share {
				b.hold(17, point(6, port))
			}
		}
		for _, want := range []int{0, 1, 1024, 1025} {
			for _, port := range classPorts(500, 9000, want) {
				if !b.m[one{17, point(6, port)}] {
					wantTake(t, b.p, 17, []uint32{6}, 500, 9000, want, point(6, port))
					b.m[one{17, point(6, port)}] = true
				}
			}
			wantNone(t, b.p, 17, []uint32{6}, 500, 9000, want)
		}
		b.all([]byte{17}, []uint32{6})
	}
}

// P17.1: a freed point is the next one that is given out, where it is the lowest of its class.
func TestFreedIsNext(t *testing.T) {
	p := ports.New()
	pool := []uint32{7, 8}
	var list []int
	for _, port := range edges() {
		if port >= 1024 && port <= 5000 {
			list = append(list, port)
		}
	}
	for port := 1024; port <= 5000; port++ {
		p.Hold(6, point(7, port))
	}
	for _, port := range list {
		p.Free(6, point(7, port))
		wantNone(t, p, 6, pool[:1], 1024, 5000, port+1)
		wantTake(t, p, 6, pool, 1024, 5000, 4000+port%2, point(7, port))
		wantNone(t, p, 6, pool[:1], 1024, 5000, port)
	}
	for _, port := range list {
		p.Free(6, point(7, port))
	}
	wantTake(t, p, 6, pool, 5001, 5010, 5001, point(7, 5001))
	for _, want := range []int{1024, 1025} {
		for _, port := range list {
			if alike(port, want) {
				wantTake(t, p, 6, pool, 1024, 5000, want, point(7, port))
			}
		}
		wantTake(t, p, 6, pool, 1024, 5000, want, point(8, want))
	}
}

// P17.1: one that is freed above the lowest free one waits for its turn; one at an earlier address comes ahead of all.
func TestFreedInTurn(t *testing.T) {
	p := ports.New()
	pool := []uint32{8, 7}
	for _, port := range []int{2000, 2002, 2004} {
		wantTake(t, p, 6, pool, 2000, 2005, 4000, point(8, port))
	}
	wantTake(t, p, 6, pool, 2000, 2005, 4000, point(7, 2000))
	wantErr(t, p, p.Free(6, point(8, 2004)), api.OK, 6, point(8, 2004), false, 3)
	wantErr(t, p, p.Free(6, point(7, 2000)), api.OK, 6, point(7, 2000), false, 2)
	wantTake(t, p, 6, pool, 2000, 2005, 4000, point(8, 2004))
	wantTake(t, p, 6, pool, 2000, 2005, 4000, point(7, 2000))
	wantTake(t, p, 6, pool, 2000, 2005, 4000, point(7, 2002))
	wantErr(t, p, p.Free(6, point(7, 2000)), api.OK, 6, point(7, 2000), false, 4)
	wantTake(t, p, 6, pool, 2001, 2005, 4000, point(7, 2004))
	wantTake(t, p, 6, pool, 2000, 2005, 4000, point(7, 2000))
	wantNone(t, p, 6, pool, 2000, 2005, 4000)
}
