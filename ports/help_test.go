package ports_test

import (
	"math/rand/v2"
	"slices"
	"testing"

	"lych/api"
	"lych/ports"
)

// edges are ports at the bounds of all ports, of the classes, of words and of blocks of any usual size.
func edges() (list []int) {
	for _, bound := range []int{0, 8, 16, 32, 64, 128, 256, 512, 1024, 1088, 2048, 4096, 32768, 65472, 65536} {
		for port := bound - 2; port <= bound+2; port++ {
			if port >= 0 && port <= 65535 {
				list = append(list, port)
			}
		}
	}
	slices.Sort(list)
	return slices.Compact(list)
}

// addresses are some at the bounds of all, and some that differ in few bits; in no order.
func addresses() []uint32 {
	return []uint32{0x05050505, 0, 0xffffffff, 1, 0x05050506, 0x80000000, 0x05050405, 0x7fffffff, 0x05040505, 0x04050505, 1024, 0xfffffffe}
}

// wants are one of each class, and those at the classes' bounds.
func wants() []int {
	return []int{0, 1, 2, 511, 1022, 1023, 1024, 1025, 1026, 4000, 4001, 65534, 65535}
}

func point(ip uint32, port int) api.Point { return api.Point{Ip: ip, Port: uint16(port)} }

func random(seed uint64) *rand.Rand { return rand.New(rand.NewPCG(seed, 17)) }

// alike tells whether a port is of want's class.
func alike(port, want int) bool { return (port < 1024) == (want < 1024) && port&1 == want&1 }

// classPorts tells all ports of want's class from lo to hi.
func classPorts(lo, hi, want int) (list []int) {
	for port := lo; port <= hi; port++ {
		if alike(port, want) {
			list = append(list, port)
		}
	}
	return list
}

// one is a point of a protocol.
type one struct {
	proto byte
	at    api.Point
}

// model is what is held, told by plain means: point by point, and gone through port by port.
type model map[one]bool

func (m model) take(proto byte, pool []uint32, lo, hi, want int) (api.Point, api.Errno) {
	for _, ip := range pool {
		for port := lo; port <= hi; port++ {
			if x := (one{proto, point(ip, port)}); alike(port, want) && !m[x] {
				m[x] = true
				return x.at, api.OK
			}
		}
	}
	return api.Point{}, api.ErrPortNone
}

// both is Ports and a model that is told the same; each call holds the one to the other.
type both struct {
	t *testing.T
	p *ports.Ports
	m model
}

func newBoth(t *testing.T) both { return both{t, ports.New(), model{}} }

// count holds Count, and Held of one point, to the model.
func (x both) count(proto byte, at api.Point) {
	x.t.Helper()
	if got, want := x.p.Held(proto, at), x.m[one{proto, at}]; got != want {
		x.t.Fatalf("Held(%d, %v) = %v; want %v", proto, at, got, want)
	}
	if got := x.p.Count(); got != len(x.m) {
		x.t.Fatalf("Count() = %d; want %d", got, len(x.m))
	}
}

func (x both) take(proto byte, pool []uint32, lo, hi, want int) (api.Point, api.Errno) {
	x.t.Helper()
	at, err := x.p.Take(proto, pool, uint16(lo), uint16(hi), uint16(want))
	if wantAt, wantErr := x.m.take(proto, pool, lo, hi, want); at != wantAt || err != wantErr {
		x.t.Fatalf("Take(%d, %.20v, %d, %d, %d) = %v, %v; want %v, %v", proto, pool, lo, hi, want, at, err, wantAt, wantErr)
	}
	x.count(proto, at)
	return at, err
}

func (x both) hold(proto byte, at api.Point) {
	x.t.Helper()
	want := api.OK
	if x.m[one{proto, at}] {
		want = api.ErrPortHeld
	}
	if err := x.p.Hold(proto, at); err != want {
		x.t.Fatalf("Hold(%d, %v) = %v; want %v", proto, at, err, want)
	}
	x.m[one{proto, at}] = true
	x.count(proto, at)
}

func (x both) free(proto byte, at api.Point) {
	x.t.Helper()
	want := api.ErrPortHeld
	if x.m[one{proto, at}] {
		want = api.OK
	}
	if err := x.p.Free(proto, at); err != want {
		x.t.Fatalf("Free(%d, %v) = %v; want %v", proto, at, err, want)
	}
	delete(x.m, one{proto, at})
	x.count(proto, at)
}

// all holds Held of each port of these addresses and protocols to the model.
func (x both) all(protos []byte, ips []uint32) {
	x.t.Helper()
	for _, proto := range protos {
		for _, ip := range ips {
			for port := range 65536 {
				if at := point(ip, port); x.p.Held(proto, at) != x.m[one{proto, at}] {
					x.t.Fatalf("Held(%d, %v) = %v", proto, at, x.p.Held(proto, at))
				}
			}
		}
	}
}

// wantTake holds Take to a point.
func wantTake(t *testing.T, p *ports.Ports, proto byte, pool []uint32, lo, hi, want int, at api.Point) {
	t.Helper()
	n := p.Count()
	if p.Held(proto, at) {
		t.Fatalf("%d, %v is held", proto, at)
	}
	if got, err := p.Take(proto, pool, uint16(lo), uint16(hi), uint16(want)); err != api.OK || got != at {
		t.Fatalf("Take(%d, %.20v, %d, %d, %d) = %v, %v; want %v", proto, pool, lo, hi, want, got, err, at)
	}
	if !p.Held(proto, at) || p.Count() != n+1 {
		t.Fatalf("behind Take: Held %v, Count %d; want true, %d", p.Held(proto, at), p.Count(), n+1)
	}
}

// wantNone holds Take to ErrPortNone, and to nothing beside it.
func wantNone(t *testing.T, p *ports.Ports, proto byte, pool []uint32, lo, hi, want int) {
	t.Helper()
	n := p.Count()
	if got, err := p.Take(proto, pool, uint16(lo), uint16(hi), uint16(want)); err != api.ErrPortNone || got != (api.Point{}) {
		t.Fatalf("Take(%d, %.20v, %d, %d, %d) = %v, %v; want %v", proto, pool, lo, hi, want, got, err, api.ErrPortNone)
	}
	if p.Count() != n {
		t.Fatalf("behind Take: Count %d; want %d", p.Count(), n)
	}
}

// wantErr holds what Hold or Free answered to a number, and Held and Count behind it.
func wantErr(t *testing.T, p *ports.Ports, got, want api.Errno, proto byte, at api.Point, held bool, count int) {
	t.Helper()
	if got != want || p.Held(proto, at) != held || p.Count() != count {
		t.Fatalf("%d, %v: %v, Held %v, Count %d; want %v, %v, %d", proto, at, got, p.Held(proto, at), p.Count(), want, held, count)
	}
}
