package valid_test

import (
	"fmt"
	"math/rand/v2"
	"regexp"
	"slices"
	"strings"
	"testing"
	"unicode/utf8"

	"lych/api"
	"lych/valid"
)

// The models here count addresses in maps, put all faults into a list and take the one that counts from it, and write the bounds as numbers, not in the way of the package.

var nameForm = regexp.MustCompile(`\A[a-z\x{80}-\x{10ffff}][-a-z0-9\x{80}-\x{10ffff}]*\z`)

// counts tells how often each address stands in a list.
func counts(list []uint32) map[uint32]int {
	n := map[uint32]int{}
	for _, ip := range list {
		n[ip]++
	}
	return n
}

// sides tells the first addresses of pairs, and the second ones.
func sides(pairs []api.Pair) (a, b []uint32) {
	for _, p := range pairs {
		a, b = append(a, p.A), append(b, p.B)
	}
	return a, b
}

// wrongList tells whether a list has 0, or an address twice.
func wrongList(list []uint32) bool {
	n := counts(list)
	return n[0] > 0 || len(n) < len(list)
}

// meet tells whether two lists have an address in common.
func meet(a, b []uint32) bool {
	n := counts(a)
	return slices.ContainsFunc(b, func(ip uint32) bool { return n[ip] > 0 })
}

// owned tells all that a tenant owns.
func owned(t api.Tenant) []uint32 {
	_, outside := sides(t.Statics)
	return append(slices.Clone(t.Pool), outside...)
}

// faults tells the errors that apply to a tenant, in any order.
func faults(t api.Tenant) (list []api.Errno) {
	add := func(err api.Errno, wrong bool) {
		if wrong {
			list = append(list, err)
		}
	}
	inside, outside := sides(t.Statics)
	seen, behind := sides(t.Twices)
	add(96, t.Vtep == 0)
	add(95, t.Sess < 1 || t.Sess > 256 || t.Queue < 1 || t.Queue > 64 || t.Rate > 1000000 || t.Burst < 1 || t.Burst > 1000000)
	add(94, t.Filter != 0 && t.Filter != 1 && t.Filter != 2)
	add(94, len(inside) > 16 || len(seen) > 16)
	add(94, wrongList(inside) || wrongList(outside) || wrongList(seen) || wrongList(behind))
	add(94, meet(t.Pool, outside) || meet(owned(t), seen))
	add(93, t.Lo < 1 || t.Lo > t.Hi)
	add(92, len(t.Pool) > 8 || wrongList(t.Pool))
	add(91, t.Vni < 1 || t.Vni > 16777215)
	add(90, len(t.Name) > 32 || !utf8.ValidString(t.Name) || !nameForm.MatchString(t.Name))
	return list
}

// modelTenant tells what Tenant must: P14.1 names the errors in the order of their numbers.
func modelTenant(t api.Tenant) api.Errno {
	if list := faults(t); len(list) > 0 {
		return slices.Min(list)
	}
	return 0
}

// modelCheck tells what Check must.
func modelCheck(c api.Config) api.Errno {
	if c.Ip == 0 || c.Drain > 1000 || len(c.Tenants) > 16 {
		return 96
	}
	networks, holders := map[uint32]int{}, counts([]uint32{c.Ip})
	for i, t := range c.Tenants {
		if err := modelTenant(t); err != 0 {
			return err
		}
		if i > 0 && strings.Compare(c.Tenants[i-1].Name, t.Name) >= 0 {
			return 90
		}
		networks[t.Vni]++
		if networks[t.Vni] > 1 {
			return 91
		}
		for _, ip := range owned(t) {
			holders[ip]++
			if holders[ip] > 1 {
				return 92
			}
		}
	}
	return 0
}

// wantTenant holds Tenant to an error, and to its model.
func wantTenant(t *testing.T, what string, x api.Tenant, want api.Errno) {
	t.Helper()
	if model := modelTenant(x); model != want {
		t.Fatalf("%s: the model tells %v of %v; want %v", what, model, x, want)
	}
	if got := valid.Tenant(x); got != want {
		t.Fatalf("%s: Tenant(%v) = %v; want %v", what, x, got, want)
	}
}

// wantCheck holds Check to an error, and to its model.
func wantCheck(t *testing.T, what string, c api.Config, want api.Errno) {
	t.Helper()
	if model := modelCheck(c); model != want {
		t.Fatalf("%s: the model tells %v of %v; want %v", what, model, c, want)
	}
	if got := valid.Check(c); got != want {
		t.Fatalf("%s: Check(%v) = %v; want %v", what, c, got, want)
	}
}

// wantAllTold holds a test to having met each error, and none, so often.
func wantAllTold(t *testing.T, told map[api.Errno]int, least int) {
	t.Helper()
	for _, err := range []api.Errno{0, 90, 91, 92, 93, 94, 95, 96} {
		if told[err] < least {
			t.Errorf("%v is told %d times only", err, told[err])
		}
	}
}

// right tells a tenant that may be, of a number, which goes with those of other numbers up to 15.
func right(i int) api.Tenant {
	n := uint32(i)
	return api.Tenant{
		Name: fmt.Sprintf("t%02d", i), Vni: 100 + n, Key: [8]byte{byte(i)}, Vtep: 0x0b000001 + n, VtepMac: api.Mac{2, byte(i)}, Host: api.Mac{4, byte(i)},
		Pool: []uint32{0x05050001 + n<<8, 0x05050002 + n<<8, 0x05050003 + n<<8}, Lo: 1024, Hi: 2047, Filter: i % 3,
		Statics: []api.Pair{{A: 0x0a000064, B: 0x05050008 + n<<8}, {A: 0x0a000065, B: 0x05050009 + n<<8}},
		Twices:  []api.Pair{{A: 0x0a0000c8, B: 0x08080808}, {A: 0x0a0000c9, B: 0x08080404}},
		Sess:    8, Queue: 4, Rate: 2, Burst: 10,
	}
}

// with tells right(0), changed.
func with(change func(*api.Tenant)) api.Tenant {
	t := right(0)
	change(&t)
	return t
}

// settings tells such with these tenants.
func settings(tenants ...api.Tenant) api.Config {
	return api.Config{Ip: 0x0b0000ff, Mac: api.Mac{2, 1}, OutMac: api.Mac{2, 2}, NextMac: api.Mac{2, 3}, Key: [8]byte{0xee}, Drain: 5, Tenants: tenants}
}

// rights tells settings of so many tenants, which may be if these are at most 16.
func rights(n int) api.Config {
	c := settings()
	for i := range n {
		c.Tenants = append(c.Tenants, right(i))
	}
	return c
}

// changed tells rights(n), changed.
func changed(n int, change func(list []api.Tenant, c *api.Config)) api.Config {
	c := rights(n)
	change(c.Tenants, &c)
	return c
}

// ips tells so many addresses, one behind the other.
func ips(from uint32, n int) (list []uint32) {
	for i := range n {
		list = append(list, from+uint32(i))
	}
	return list
}

// pairs tells so many, one behind the other.
func pairs(a, b uint32, n int) (list []api.Pair) {
	for i := range n {
		list = append(list, api.Pair{A: a + uint32(i), B: b + uint32(i)})
	}
	return list
}

func random(seed uint64) *rand.Rand { return rand.New(rand.NewPCG(seed, 14)) }

func pick[E any](r *rand.Rand, list ...E) E { return list[r.IntN(len(list))] }

// randomIps tells a list of addresses out of a few, 0 seldom among them.
func randomIps(r *rand.Rand, from uint32, span, most int) (list []uint32) {
	for range r.IntN(most + 1) {
		ip := from + r.Uint32N(uint32(span))
		if r.IntN(300) == 0 {
			ip = 0
		}
		list = append(list, ip)
	}
	return list
}

// randomPairs tells pairs of two such lists.
func randomPairs(r *rand.Rand, a, b uint32, span, most int) (list []api.Pair) {
	as, bs := randomIps(r, a, span, most), randomIps(r, b, span, most)
	for i := range min(len(as), len(bs)) {
		list = append(list, api.Pair{A: as[i], B: bs[i]})
	}
	return list
}

// spoiled tells t with one field near a bound, mostly past it.
func spoiled(r *rand.Rand, t api.Tenant) api.Tenant {
	switch r.IntN(11) {
	case 0:
		t.Name = pick(r, "", "A", "1a", "-", "a b", "a\xff", "é", strings.Repeat("a", 32), strings.Repeat("a", 33))
	case 1:
		t.Vni = pick[uint32](r, 0, 1, 0xffffff, 0x1000000, 1<<32-1)
	case 2:
		t.Pool = ips(r.Uint32N(3), pick(r, 0, 7, 8, 9, 20))
	case 3:
		t.Lo, t.Hi = pick[uint16](r, 0, 1, 9, 65535), pick[uint16](r, 0, 1, 9, 65535)
	case 4:
		t.Filter = pick(r, -1<<63, -1, 0, 1, 2, 3, 1<<63-1)
	case 5:
		t.Statics = pairs(r.Uint32N(3), 0x70000000, pick(r, 15, 16, 17, 40))
	case 6:
		t.Twices = pairs(0x70000000, r.Uint32N(3), pick(r, 15, 16, 17, 40))
	case 7:
		t.Sess = pick(r, -1<<63, -1, 0, 1, 256, 257, 1<<32+1)
	case 8:
		t.Queue = pick(r, -1<<63, -1, 0, 1, 64, 65, 1<<32+1)
	case 9:
		t.Rate, t.Burst = pick[uint32](r, 0, 1, 1000000, 1000001), pick[uint32](r, 0, 1, 1000000, 1000001)
	case 10:
		t.Vtep = pick[uint32](r, 0, 1, 1<<32-1)
	}
	return t
}

// randomTenant tells one whose addresses are often unlike one another, seldom not, and which has so many more faults at most. Those of like numbers often own the same.
func randomTenant(r *rand.Rand, i, spoils int) api.Tenant {
	t := right(i)
	from := 0x05050000 + uint32(i)<<7
	span := pick(r, 20, 300)
	t.Pool = randomIps(r, from, span, pick(r, 2, 5))
	t.Statics = randomPairs(r, 0x0a000000, from, 5*span, pick(r, 2, 5))
	t.Twices = randomPairs(r, from+128, 0x08080800, 5*span, pick(r, 2, 5))
	for range r.IntN(spoils + 1) {
		t = spoiled(r, t)
	}
	return t
}

// randomSettings tells such of up to so many tenants, seldom out of order.
func randomSettings(r *rand.Rand, most int) api.Config {
	c := settings()
	for i := range r.IntN(most + 1) {
		t := randomTenant(r, i, r.IntN(20)/19)
		if r.IntN(20) == 0 {
			t.Name = fmt.Sprintf("t%02d", r.IntN(most+2))
		}
		if r.IntN(20) == 0 {
			t.Vni = 100 + r.Uint32N(uint32(most)+2)
		}
		c.Tenants = append(c.Tenants, t)
	}
	c.Ip = pick(r, c.Ip, c.Ip, c.Ip, 0x05050000+r.Uint32N(0x800))
	if r.IntN(50) == 0 {
		c.Ip, c.Drain = pick(r, 0, c.Ip), pick[uint32](r, 0, 1000, 1001, 1<<32-1)
	}
	return c
}
