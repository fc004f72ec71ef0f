package cfg_test

import (
	"bytes"
	"math"
	"strings"
	"testing"

	"lych/api"
	"lych/cfg"
)

// The error's number, as the chapter tells it.
func TestNumbers(t *testing.T) {
	if api.ErrCode != 70 {
		t.Error(api.ErrCode)
	}
}

// P12.1: a tenant and its bytes, told by hand.
func TestTenantKnown(t *testing.T) {
	if got := cfg.Tenant(full()); !bytes.Equal(got, fullBytes()) {
		t.Errorf("% x", got)
	}
	if got, n, err := cfg.OpenTenant(fullBytes()); err != api.OK || n != len(fullBytes()) || !equalTenants(got, full()) {
		t.Errorf("%v, %d, %v", got, n, err)
	}
}

// bytesOfNothing are how many a tenant has that is nothing but zeros.
const bytesOfNothing = 49

// P12.1: a tenant of zeros is noughts.
func TestTenantOfNothing(t *testing.T) {
	noughts := make([]byte, bytesOfNothing)
	if got := cfg.Tenant(api.Tenant{}); !bytes.Equal(got, noughts) {
		t.Errorf("% x", got)
	}
	wantOpen(t, noughts, api.Tenant{}, bytesOfNothing)
	wantOpen(t, make([]byte, 1000), api.Tenant{}, bytesOfNothing)
}

// P12.1: each field by itself, at its bits each and at its greatest: its bytes stand in their place, the others are noughts.
func TestTenantFields(t *testing.T) {
	rows := []struct {
		what     string
		at, size int
		set      func(*api.Tenant, uint64)
	}{
		{"Vni", 1, 4, func(x *api.Tenant, n uint64) { x.Vni = uint32(n) }},
		{"Key", 5, 8, func(x *api.Tenant, n uint64) { copy(x.Key[:], big(n)) }},
		{"Vtep", 13, 4, func(x *api.Tenant, n uint64) { x.Vtep = uint32(n) }},
		{"VtepMac", 17, 6, func(x *api.Tenant, n uint64) { copy(x.VtepMac[:], big(n)[2:]) }},
		{"Host", 23, 6, func(x *api.Tenant, n uint64) { copy(x.Host[:], big(n)[2:]) }},
		{"Lo", 29, 2, func(x *api.Tenant, n uint64) { x.Lo = uint16(n) }},
		{"Hi", 31, 2, func(x *api.Tenant, n uint64) { x.Hi = uint16(n) }},
		{"Filter", 33, 1, func(x *api.Tenant, n uint64) { x.Filter = int(n) }},
		{"Sess", 34, 2, func(x *api.Tenant, n uint64) { x.Sess = int(n) }},
		{"Queue", 36, 2, func(x *api.Tenant, n uint64) { x.Queue = int(n) }},
		{"Rate", 38, 4, func(x *api.Tenant, n uint64) { x.Rate = uint32(n) }},
		{"Burst", 42, 4, func(x *api.Tenant, n uint64) { x.Burst = uint32(n) }},
	}
	at := 1
	for _, row := range rows {
		if row.at != at {
			t.Fatalf("%s: the test has a gap at %d", row.what, at)
		}
		at += row.size
		numbers := []uint64{0, math.MaxUint64 >> (64 - 8*row.size), 0x0123456789abcdef >> (64 - 8*row.size)}
		for bit := range 8 * row.size {
			numbers = append(numbers, 1<<bit)
		}
		for _, n := range numbers {
			x := api.Tenant{}
			row.set(&x, n)
			want := make([]byte, bytesOfNothing)
			copy(want[row.at:], big(n)[8-row.size:])
			if got := cfg.Tenant(x); !bytes.Equal(got, want) {
				t.Fatalf("%s of %x: % x; want % x", row.what, n, got, want)
			}
			wantOpen(t, want, x, bytesOfNothing)
		}
	}
}

// P12.1: of a name at most 255 bytes, whatever they are.
func TestTenantNames(t *testing.T) {
	for _, n := range append(lengths(), 65535, 65536, 65537) {
		for _, part := range []string{"n", "\x00", "\xff", "é", "ab\x00\xc3"} {
			x := full()
			x.Name = strings.Repeat(part, n)[:n]
			got := cfg.Tenant(x)
			if kept := min(n, 255); int(got[0]) != kept || string(got[1:1+kept]) != x.Name[:kept] || len(got) != len(fullBytes())-2+kept {
				t.Fatalf("%d bytes of %q: %d bytes: % .300x", n, part, len(got), got)
			}
			wantTenant(t, x)
		}
	}
	for _, name := range []string{"", "a", "\x00", "\x00\x00", "a\x00", "\x00a", "\x80", "\xc3", "\xed\xa0\x80", "\xff\xfe", "\ufffd", "\U0010ffff", "1-", "A b\n", strings.Repeat("x", 254) + "é"} {
		wantTenant(t, api.Tenant{Name: name})
		x := full()
		x.Name = name
		wantTenant(t, x)
	}
}

// P12.1: of Filter the lowest eight bits are written, of Sess and Queue the lowest sixteen.
func TestTenantLowestBits(t *testing.T) {
	var numbers []int
	for _, bound := range []int{0, 1 << 7, 1 << 8, 1 << 15, 1 << 16, 1 << 31, 1 << 32, 0x123456789a, math.MinInt, math.MaxInt} {
		for d := -2; d <= 2; d++ {
			numbers = append(numbers, bound+d, -bound+d)
		}
	}
	for _, n := range numbers {
		for _, other := range []int{0, -1} {
			for i, x := range []api.Tenant{{Filter: n, Sess: other, Queue: other}, {Filter: other, Sess: n, Queue: other}, {Filter: other, Sess: other, Queue: n}} {
				got := cfg.Tenant(x)
				if want := big(byte(x.Filter), uint16(x.Sess), uint16(x.Queue)); len(got) != bytesOfNothing || !bytes.Equal(got[33:38], want) {
					t.Fatalf("row %d, %d: % x; want % x", i, n, got, want)
				}
				y, _, err := cfg.OpenTenant(got)
				if err != api.OK || y.Filter != x.Filter&0xff || y.Sess != x.Sess&0xffff || y.Queue != x.Queue&0xffff {
					t.Fatalf("row %d, %d: %v, %v", i, n, y, err)
				}
			}
		}
	}
}

// P12.1: of each list at most 255, by itself and beside the others.
func TestTenantLists(t *testing.T) {
	r := random(1)
	for _, n := range lengths() {
		pool := make([]uint32, n)
		for i := range pool {
			pool[i] = r.Uint32()
		}
		statics, twices := randomPairs(r, n), randomPairs(r, n)
		wantTenant(t, api.Tenant{Pool: pool})
		wantTenant(t, api.Tenant{Statics: statics})
		wantTenant(t, api.Tenant{Twices: twices})
		wantTenant(t, api.Tenant{Name: "x", Pool: pool, Statics: statics, Twices: twices})
		wantTenant(t, api.Tenant{Pool: pool[:n/2], Statics: statics, Twices: twices[:n/3]})
		wantTenant(t, api.Tenant{Pool: []uint32{1}, Statics: []api.Pair{{A: 2, B: 3}}, Twices: twices})
		kept := min(n, 255)
		for at, x := range map[int]api.Tenant{46: {Pool: pool}, 47: {Statics: statics}, 48: {Twices: twices}} {
			size := map[int]int{46: 4, 47: 8, 48: 8}[at]
			if got := cfg.Tenant(x); len(got) != bytesOfNothing+size*kept || int(got[at]) != kept || got[46]|got[47]|got[48] != got[at] {
				t.Fatalf("byte %d, %d of them: %d bytes, % x", at, n, len(got), got[46:49])
			}
		}
	}
}

// P12.1: numbers of lists at their least and greatest, in each place.
func TestTenantListNumbers(t *testing.T) {
	for _, n := range []uint32{0, 1, 0x80, 0x100, 0x8000, 0x10000, 0x1000000, 0x80000000, 0x01020304, math.MaxUint32} {
		for at := range 3 {
			pool, statics, twices := make([]uint32, 3), make([]api.Pair, 3), make([]api.Pair, 3)
			pool[at], statics[at].A, twices[at].B = n, n, n
			wantTenant(t, api.Tenant{Pool: pool})
			wantTenant(t, api.Tenant{Statics: statics})
			wantTenant(t, api.Tenant{Twices: twices})
			wantTenant(t, api.Tenant{Pool: pool, Statics: twices, Twices: statics})
		}
	}
}

// P12.1: of nothing, and of bytes that end ahead at each place, there is no tenant.
func TestOpenTenantCut(t *testing.T) {
	wantNoTenant(t, nil)
	wantNoTenant(t, []byte{})
	r := random(2)
	for _, x := range []api.Tenant{{}, full(), {Name: strings.Repeat("n", 255)}, randomTenant(r, 9), randomTenant(r, 60), randomTenant(r, 300)} {
		b := cfg.Tenant(x)
		for n := range b {
			wantNoTenant(t, bytes.Clone(b[:n]))
		}
		wantOpen(t, b, cutTenant(x), len(b))
	}
}

// P12.1: lengths that say more than there is.
func TestOpenTenantLengths(t *testing.T) {
	for n := range 256 {
		for at, size := range map[int]int{0: 1, 46: 4, 47: 8, 48: 8} {
			b := make([]byte, bytesOfNothing+size*n)
			b[at] = byte(n)
			if _, got, err := cfg.OpenTenant(b); err != api.OK || got != len(b) {
				t.Fatalf("byte %d of %d: %d, %v; want %d", at, n, got, err, len(b))
			}
			if n > 0 {
				wantNoTenant(t, b[:len(b)-1])
				wantNoTenant(t, b[:len(b)-size])
				wantNoTenant(t, b[:bytesOfNothing])
			}
		}
	}
	for n := range 300 {
		wantNoTenant(t, bytes.Repeat([]byte{0xff}, n))
	}
}

// P12.1: tenants that stand one behind the other are read in turn, by how many bytes each has.
func TestOpenTenantBehind(t *testing.T) {
	r := random(3)
	for range 200 {
		var list []api.Tenant
		var b []byte
		for range 1 + r.IntN(6) {
			list = append(list, randomTenant(r, 20))
			b = append(b, cfg.Tenant(list[len(list)-1])...)
		}
		for _, x := range list {
			n := len(tenantBytes(x))
			wantOpen(t, b, cutTenant(x), n)
			b = b[n:]
		}
		wantNoTenant(t, b)
	}
}

// P12.1: any bytes are a tenant, just if there are as many as its lengths say; it is written by the same bytes.
func TestOpenTenantAnyBytes(t *testing.T) {
	r := random(4)
	for range 100000 {
		b := randomBytes(r, r.IntN(400))
		if len(b) > 0 {
			b[0] = byte(r.IntN(8))
			if at := 46 + int(b[0]); at+3 <= len(b) {
				b[at], b[at+1], b[at+2] = byte(r.IntN(30)), byte(r.IntN(20)), byte(r.IntN(20))
			}
		}
		need := 1
		if len(b) > 0 {
			need = bytesOfNothing + int(b[0])
		}
		if need <= len(b) {
			need += 4*int(b[need-3]) + 8*int(b[need-2]) + 8*int(b[need-1])
		}
		if need > len(b) {
			wantNoTenant(t, b)
			continue
		}
		x, n, err := cfg.OpenTenant(b)
		if err != api.OK || n != need || !bytes.Equal(cfg.Tenant(x), b[:n]) {
			t.Fatalf("% x: %v, %d, %v; want %d", b, x, n, err, need)
		}
	}
}

// P12.4: what is written is read back, but for what was cut off; and that, written again, is the same bytes.
func TestTenantBack(t *testing.T) {
	r := random(5)
	for range 3000 {
		x := randomTenant(r, []int{0, 3, 30, 300}[r.IntN(4)])
		wantTenant(t, x)
		y, _, _ := cfg.OpenTenant(cfg.Tenant(x))
		wantTenant(t, y)
		if z, _, _ := cfg.OpenTenant(cfg.Tenant(y)); !equalTenants(y, z) || !bytes.Equal(cfg.Tenant(x), cfg.Tenant(y)) {
			t.Fatalf("%v, %v", y, z)
		}
	}
}
