package valid_test

import (
	"fmt"
	"slices"
	"strings"
	"testing"

	"lych/api"
	"lych/valid"
)

// P14.1: the errors have the numbers that the chapter's table tells.
func TestNumbers(t *testing.T) {
	for i, err := range []api.Errno{api.ErrName, api.ErrVni, api.ErrPool, api.ErrPorts, api.ErrRule, api.ErrQuota, api.ErrGateway} {
		if err != api.Errno(90+i) {
			t.Errorf("%v; want %d", err, 90+i)
		}
	}
}

// P14.1: tenants that may be, whatever is in the fields that nothing is asked of.
func TestRightTenants(t *testing.T) {
	for i := range 16 {
		wantTenant(t, "as it is", right(i), api.OK)
	}
	x := right(0)
	x.Key, x.VtepMac, x.Host = [8]byte{}, api.Mac{}, api.Mac{}
	wantTenant(t, "no key, no Ethernet addresses", x, api.OK)
	least := api.Tenant{Name: "a", Vni: 1, Vtep: 1, Lo: 1, Hi: 1, Sess: 1, Queue: 1, Burst: 1}
	wantTenant(t, "least", least, api.OK)
	wantTenant(t, "nothing", api.Tenant{}, api.ErrName)
}

// P14.1: names are addr's.
func TestNames(t *testing.T) {
	for _, name := range []string{"a", "z", "a0", "a-", "tenant-1", "é", "界", "\u0080", "🙂", strings.Repeat("a", 32), strings.Repeat("é", 16)} {
		wantTenant(t, name, with(func(x *api.Tenant) { x.Name = name }), api.OK)
	}
	for _, name := range []string{"", "A", "0", "-", "0a", "-a", "aA", "a b", "a.", "a\x00", "a\n", "\x7f", "\xff", "a\xc3", "a\xed\xa0\x80", strings.Repeat("a", 33), strings.Repeat("é", 16) + "a"} {
		wantTenant(t, name, with(func(x *api.Tenant) { x.Name = name }), api.ErrName)
	}
}

// P14.1: a network is 1 to ffffff.
func TestVni(t *testing.T) {
	for vni, want := range map[uint32]api.Errno{0: api.ErrVni, 1: 0, 2: 0, 0xfffffe: 0, 0xffffff: 0, 0x1000000: api.ErrVni, 0x1000001: api.ErrVni, 1<<32 - 1: api.ErrVni} {
		wantTenant(t, fmt.Sprintf("vni %x", vni), with(func(x *api.Tenant) { x.Vni = vni }), want)
	}
}

// P14.1: a pool has up to MaxPool addresses, or none.
func TestPoolLength(t *testing.T) {
	for n, want := range map[int]api.Errno{0: 0, 1: 0, 7: 0, 8: 0, 9: api.ErrPool, 10: api.ErrPool, 256: api.ErrPool, 264: api.ErrPool} {
		wantTenant(t, fmt.Sprint(n), with(func(x *api.Tenant) { x.Pool = ips(0x06000000, n) }), want)
	}
	wantTenant(t, "empty", with(func(x *api.Tenant) { x.Pool = []uint32{} }), api.OK)
	wantTenant(t, "the greatest ones", with(func(x *api.Tenant) { x.Pool = ips(1<<32-8, 8) }), api.OK)
}

// P14.1: a pool has no 0, wherever, and none twice, near to one another or far.
func TestPoolAddresses(t *testing.T) {
	for n := 1; n <= 8; n++ {
		for i := range n {
			wantTenant(t, fmt.Sprintf("0 at %d of %d", i, n), with(func(x *api.Tenant) {
				x.Pool = ips(0x06000000, n)
				x.Pool[i] = 0
			}), api.ErrPool)
			for k := range i {
				wantTenant(t, fmt.Sprintf("%d as %d of %d", i, k, n), with(func(x *api.Tenant) {
					x.Pool = ips(0x06000000, n)
					x.Pool[i] = x.Pool[k]
				}), api.ErrPool)
			}
		}
	}
	for _, list := range [][]uint32{{1}, {1<<32 - 1}, {1, 1 << 8, 1 << 16, 1 << 24, 1 << 31}, {8, 7, 6}, {0x0a000064}} {
		wantTenant(t, fmt.Sprint(list), with(func(x *api.Tenant) { x.Pool = list }), api.OK)
	}
}

// P14.1: ports are 1 <= Lo <= Hi.
func TestPorts(t *testing.T) {
	edges := []uint16{0, 1, 2, 1023, 1024, 32767, 32768, 65534, 65535}
	for _, lo := range edges {
		for _, hi := range edges {
			want := api.ErrPorts
			if lo >= 1 && lo <= hi {
				want = api.OK
			}
			wantTenant(t, fmt.Sprint(lo, hi), with(func(x *api.Tenant) { x.Lo, x.Hi = lo, hi }), want)
		}
	}
	wantTenant(t, "one above", with(func(x *api.Tenant) { x.Lo, x.Hi = 5001, 5000 }), api.ErrPorts)
}

// P14.1: Sess is 1 to MaxSess, Queue 1 to MaxQueue, Rate at most MaxRate, Burst 1 to MaxRate.
func TestQuotas(t *testing.T) {
	least, most := -1<<63, 1<<63-1
	for n, want := range map[int]api.Errno{least: 95, -257: 95, -1: 95, 0: 95, 1: 0, 2: 0, 255: 0, 256: 0, 257: 95, 1<<32 + 1: 95, most: 95} {
		wantTenant(t, fmt.Sprint("sess ", n), with(func(x *api.Tenant) { x.Sess = n }), want)
	}
	for n, want := range map[int]api.Errno{least: 95, -65: 95, -1: 95, 0: 95, 1: 0, 2: 0, 63: 0, 64: 0, 65: 95, 1<<32 + 1: 95, most: 95} {
		wantTenant(t, fmt.Sprint("queue ", n), with(func(x *api.Tenant) { x.Queue = n }), want)
	}
	for n, want := range map[uint32]api.Errno{0: 0, 1: 0, 999999: 0, 1000000: 0, 1000001: 95, 1 << 31: 95, 1<<32 - 1: 95} {
		wantTenant(t, fmt.Sprint("rate ", n), with(func(x *api.Tenant) { x.Rate = n }), want)
	}
	for n, want := range map[uint32]api.Errno{0: 95, 1: 0, 999999: 0, 1000000: 0, 1000001: 95, 1 << 31: 95, 1<<32 - 1: 95} {
		wantTenant(t, fmt.Sprint("burst ", n), with(func(x *api.Tenant) { x.Burst = n }), want)
	}
	wantTenant(t, "more a tick than there may be at once", with(func(x *api.Tenant) { x.Rate, x.Burst = 1000000, 1 }), api.OK)
}

// P14.1: a tunnel end is any but 0, the gateway's or one of its own addresses too.
func TestVtep(t *testing.T) {
	wantTenant(t, "0", with(func(x *api.Tenant) { x.Vtep = 0 }), api.ErrGateway)
	for _, ip := range []uint32{1, 1 << 31, 1<<32 - 1, right(0).Pool[0], right(0).Statics[0].B} {
		wantTenant(t, fmt.Sprint(ip), with(func(x *api.Tenant) { x.Vtep = ip }), api.OK)
	}
}

// fault is a change that makes a right tenant one of an error.
type fault struct {
	what   string
	err    api.Errno
	change func(*api.Tenant)
}

// allFaults are all that P14.1 names, each in fields that none of another error changes.
var allFaults = []fault{
	{"empty name", 90, func(x *api.Tenant) { x.Name = "" }},
	{"long name", 90, func(x *api.Tenant) { x.Name = strings.Repeat("a", 33) }},
	{"vni 0", 91, func(x *api.Tenant) { x.Vni = 0 }},
	{"great vni", 91, func(x *api.Tenant) { x.Vni = 1 << 24 }},
	{"long pool", 92, func(x *api.Tenant) { x.Pool = append(x.Pool, ips(0x06000000, 6)...) }},
	{"0 in pool", 92, func(x *api.Tenant) { x.Pool = append(x.Pool, 0) }},
	{"twice in pool", 92, func(x *api.Tenant) { x.Pool = append(x.Pool, x.Pool[0]) }},
	{"lo 0", 93, func(x *api.Tenant) { x.Lo = 0 }},
	{"lo above hi", 93, func(x *api.Tenant) { x.Lo = x.Hi + 1 }},
	{"filter below", 94, func(x *api.Tenant) { x.Filter = -1 }},
	{"filter above", 94, func(x *api.Tenant) { x.Filter = 3 }},
	{"many statics", 94, func(x *api.Tenant) { x.Statics = pairs(0x0a010000, 0x06000000, 17) }},
	{"many twices", 94, func(x *api.Tenant) { x.Twices = pairs(0x0a010000, 0x06000000, 17) }},
	{"static from 0", 94, func(x *api.Tenant) { x.Statics[1].A = 0 }},
	{"static to 0", 94, func(x *api.Tenant) { x.Statics[1].B = 0 }},
	{"twice from 0", 94, func(x *api.Tenant) { x.Twices[1].A = 0 }},
	{"twice to 0", 94, func(x *api.Tenant) { x.Twices[1].B = 0 }},
	{"static's a twice", 94, func(x *api.Tenant) { x.Statics[1].A = x.Statics[0].A }},
	{"static's b twice", 94, func(x *api.Tenant) { x.Statics[1].B = x.Statics[0].B }},
	{"twice's a twice", 94, func(x *api.Tenant) { x.Twices[1].A = x.Twices[0].A }},
	{"twice's b twice", 94, func(x *api.Tenant) { x.Twices[1].B = x.Twices[0].B }},
	{"static's b in pool", 94, func(x *api.Tenant) { x.Statics[1].B = 0x05050001 }},
	{"twice's a in pool", 94, func(x *api.Tenant) { x.Twices[1].A = 0x05050001 }},
	{"twice's a as static's b", 94, func(x *api.Tenant) { x.Twices[1].A = 0x05050008 }},
	{"sess 0", 95, func(x *api.Tenant) { x.Sess = 0 }},
	{"great sess", 95, func(x *api.Tenant) { x.Sess = 257 }},
	{"queue 0", 95, func(x *api.Tenant) { x.Queue = 0 }},
	{"great queue", 95, func(x *api.Tenant) { x.Queue = 65 }},
	{"great rate", 95, func(x *api.Tenant) { x.Rate = 1000001 }},
	{"burst 0", 95, func(x *api.Tenant) { x.Burst = 0 }},
	{"great burst", 95, func(x *api.Tenant) { x.Burst = 1000001 }},
	{"no tunnel end", 96, func(x *api.Tenant) { x.Vtep = 0 }},
}

// P14.1: of two faults the one that is named first is told; so of all of them, and of those that are left.
func TestFirstFault(t *testing.T) {
	for _, one := range allFaults {
		wantTenant(t, one.what, with(one.change), one.err)
		for _, other := range allFaults {
			// Two changes of one field would be one fault.
			if one.err < other.err {
				x := with(one.change)
				other.change(&x)
				wantTenant(t, one.what+", "+other.what, x, one.err)
			}
		}
	}
	for from := api.Errno(90); from <= 96; from++ {
		x := right(0)
		for _, f := range slices.Backward(allFaults) {
			if f.err >= from && f.what != "many statics" && f.what != "many twices" {
				f.change(&x)
			}
		}
		wantTenant(t, "all from "+from.Error(), x, from)
	}
}

// P14.1: tenants of any fields, against the model.
func TestAnyTenant(t *testing.T) {
	r := random(1)
	told := map[api.Errno]int{}
	for range 200000 {
		x := randomTenant(r, 0, 3)
		got, want := valid.Tenant(x), modelTenant(x)
		if got != want {
			t.Fatalf("Tenant(%v) = %v; want %v", x, got, want)
		}
		told[want]++
	}
	wantAllTold(t, told, 500)
}
