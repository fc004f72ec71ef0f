package cfg_test

import (
	"bytes"
	"encoding/binary"
	"math/rand/v2"
	"reflect"
	"strings"
	"testing"

	"lych/api"
	"lych/cfg"
)

// The models here write by encoding/binary and hold by reflect, not in the way of the package.

// big tells numbers, arrays of bytes and lists of them, the highest byte first.
func big(parts ...any) []byte {
	var out bytes.Buffer
	for _, part := range parts {
		if err := binary.Write(&out, binary.BigEndian, part); err != nil {
			panic(err)
		}
	}
	return out.Bytes()
}

// nameBytes tells what stands for a name.
func nameBytes(s string) []byte {
	if len(s) > 255 {
		s = s[:255]
	}
	return append([]byte{byte(len(s))}, s...)
}

// first255 tells what is left of a list.
func first255[E any](list []E) []E {
	if len(list) > 255 {
		return list[:255]
	}
	return list
}

// tenantBytes tells what Tenant must.
func tenantBytes(t api.Tenant) []byte {
	pool, statics, twices := first255(t.Pool), first255(t.Statics), first255(t.Twices)
	return append(nameBytes(t.Name), big(
		t.Vni, t.Key, t.Vtep, t.VtepMac, t.Host, t.Lo, t.Hi, uint8(t.Filter), uint16(t.Sess), uint16(t.Queue), t.Rate, t.Burst,
		uint8(len(pool)), uint8(len(statics)), uint8(len(twices)), pool, statics, twices)...)
}

// configBytes tells what Config must.
func configBytes(c api.Config) []byte {
	tenants := first255(c.Tenants)
	out := big(c.Ip, c.Mac, c.OutMac, c.NextMac, c.Key, c.Drain, uint8(len(tenants)))
	for _, t := range tenants {
		out = append(out, tenantBytes(t)...)
	}
	return out
}

// changeBytes tells what Change must.
func changeBytes(c api.Change) []byte {
	if c.Put {
		return append([]byte{1}, tenantBytes(c.T)...)
	}
	return append([]byte{0}, nameBytes(c.Name)...)
}

// cutTenant tells a copy of t as it must be read back, empty lists nil.
func cutTenant(t api.Tenant) api.Tenant {
	t.Name = string(nameBytes(t.Name)[1:])
	t.Filter, t.Sess, t.Queue = int(uint8(t.Filter)), int(uint16(t.Sess)), int(uint16(t.Queue))
	t.Pool = append([]uint32(nil), first255(t.Pool)...)
	t.Statics = append([]api.Pair(nil), first255(t.Statics)...)
	t.Twices = append([]api.Pair(nil), first255(t.Twices)...)
	return t
}

// cutConfig is to settings what cutTenant is to a tenant.
func cutConfig(c api.Config) api.Config {
	tenants := first255(c.Tenants)
	c.Tenants = nil
	for _, t := range tenants {
		c.Tenants = append(c.Tenants, cutTenant(t))
	}
	return c
}

// cutChange is to a change what cutTenant is to a tenant.
func cutChange(c api.Change) api.Change {
	if c.Put {
		t := cutTenant(c.T)
		return api.Change{Put: true, Name: t.Name, T: t}
	}
	return api.Change{Name: string(nameBytes(c.Name)[1:])}
}

// bareTenant tells a copy of t that is nothing but its empty lists made nil.
func bareTenant(t api.Tenant) api.Tenant {
	t.Pool = append([]uint32(nil), t.Pool...)
	t.Statics = append([]api.Pair(nil), t.Statics...)
	t.Twices = append([]api.Pair(nil), t.Twices...)
	return t
}

func bareConfig(c api.Config) api.Config {
	tenants := c.Tenants
	c.Tenants = nil
	for _, t := range tenants {
		c.Tenants = append(c.Tenants, bareTenant(t))
	}
	return c
}

func bareChange(c api.Change) api.Change {
	c.T = bareTenant(c.T)
	return c
}

func equalTenants(a, b api.Tenant) bool { return reflect.DeepEqual(bareTenant(a), bareTenant(b)) }
func equalConfigs(a, b api.Config) bool { return reflect.DeepEqual(bareConfig(a), bareConfig(b)) }
func equalChanges(a, b api.Change) bool { return reflect.DeepEqual(bareChange(a), bareChange(b)) }

// wantTenant holds Tenant and OpenTenant to their models.
func wantTenant(t *testing.T, x api.Tenant) {
	t.Helper()
	want := tenantBytes(x)
	b := cfg.Tenant(x)
	if !bytes.Equal(b, want) {
		t.Fatalf("Tenant: % .200x; want % .200x", b, want)
	}
	for _, behind := range []string{"", "\x00", "\xff", strings.Repeat("\x01", 9000)} {
		wantOpen(t, append(bytes.Clone(want), behind...), cutTenant(x), len(want))
	}
}

// wantOpen holds OpenTenant to a tenant of n bytes.
func wantOpen(t *testing.T, b []byte, want api.Tenant, n int) {
	t.Helper()
	if got, size, err := cfg.OpenTenant(b); err != api.OK || size != n || !equalTenants(got, want) {
		t.Fatalf("OpenTenant(% .200x) = %v, %d, %v; want %v, %d", b, got, size, err, want, n)
	}
}

// wantConfig holds Config and OpenConfig to their models.
func wantConfig(t *testing.T, x api.Config) {
	t.Helper()
	b, want := cfg.Config(x), configBytes(x)
	if !bytes.Equal(b, want) {
		t.Fatalf("Config: % .200x; want % .200x", b, want)
	}
	if got, err := cfg.OpenConfig(want); err != api.OK || !equalConfigs(got, cutConfig(x)) {
		t.Fatalf("OpenConfig(% .200x) = %v, %v", b, got, err)
	}
}

// wantChange holds Change and OpenChange to their models.
func wantChange(t *testing.T, x api.Change) {
	t.Helper()
	b, want := cfg.Change(x), changeBytes(x)
	if !bytes.Equal(b, want) {
		t.Fatalf("Change: % .200x; want % .200x", b, want)
	}
	if got, err := cfg.OpenChange(want); err != api.OK || !equalChanges(got, cutChange(x)) {
		t.Fatalf("OpenChange(% .200x) = %v, %v", b, got, err)
	}
}

// wantNoTenant holds OpenTenant to its error, and to nothing beside it.
func wantNoTenant(t *testing.T, b []byte) {
	t.Helper()
	if got, n, err := cfg.OpenTenant(b); err != api.ErrCode || n != 0 || !equalTenants(got, api.Tenant{}) {
		t.Fatalf("OpenTenant(% .200x) = %v, %d, %v", b, got, n, err)
	}
}

// wantNoConfig is to OpenConfig what wantNoTenant is to OpenTenant.
func wantNoConfig(t *testing.T, b []byte) {
	t.Helper()
	if got, err := cfg.OpenConfig(b); err != api.ErrCode || !equalConfigs(got, api.Config{}) {
		t.Fatalf("OpenConfig(% .200x) = %v, %v", b, got, err)
	}
}

// wantNoChange is to OpenChange what wantNoTenant is to OpenTenant.
func wantNoChange(t *testing.T, b []byte) {
	t.Helper()
	if got, err := cfg.OpenChange(b); err != api.ErrCode || !equalChanges(got, api.Change{}) {
		t.Fatalf("OpenChange(% .200x) = %v, %v", b, got, err)
	}
}

func random(seed uint64) *rand.Rand { return rand.New(rand.NewPCG(seed, 12)) }

func randomBytes(r *rand.Rand, n int) []byte {
	b := make([]byte, n)
	for i := range b {
		b[i] = byte(r.Uint32())
	}
	return b
}

func randomPairs(r *rand.Rand, n int) []api.Pair {
	list := make([]api.Pair, n)
	for i := range list {
		list[i] = api.Pair{A: r.Uint32(), B: r.Uint32()}
	}
	return list
}

// randomTenant tells one whose name and lists have at most most bytes and elements; its ints are of any size.
func randomTenant(r *rand.Rand, most int) api.Tenant {
	t := api.Tenant{
		Name: string(randomBytes(r, r.IntN(most+1))), Vni: r.Uint32(), Key: [8]byte(randomBytes(r, 8)), Vtep: r.Uint32(),
		VtepMac: api.Mac(randomBytes(r, 6)), Host: api.Mac(randomBytes(r, 6)), Lo: uint16(r.Uint32()), Hi: uint16(r.Uint32()),
		Filter: int(r.Uint64()), Sess: int(r.Uint64()), Queue: int(r.Uint64()), Rate: r.Uint32(), Burst: r.Uint32(),
		Statics: randomPairs(r, r.IntN(most+1)), Twices: randomPairs(r, r.IntN(most+1)),
	}
	for range r.IntN(most + 1) {
		t.Pool = append(t.Pool, r.Uint32())
	}
	return t
}

// randomConfig tells one of so many tenants.
func randomConfig(r *rand.Rand, tenants, most int) api.Config {
	c := api.Config{
		Ip: r.Uint32(), Mac: api.Mac(randomBytes(r, 6)), OutMac: api.Mac(randomBytes(r, 6)), NextMac: api.Mac(randomBytes(r, 6)),
		Key: [8]byte(randomBytes(r, 8)), Drain: r.Uint32(),
	}
	for range tenants {
		c.Tenants = append(c.Tenants, randomTenant(r, most))
	}
	return c
}

// full tells a tenant each of whose bytes is unlike the others, but for the noughts of greater numbers; nothing of it is cut off.
func full() api.Tenant {
	return api.Tenant{
		Name: "ab", Vni: 0x10111213, Key: [8]byte{0x20, 0x21, 0x22, 0x23, 0x24, 0x25, 0x26, 0x27}, Vtep: 0x30313233,
		VtepMac: api.Mac{0x40, 0x41, 0x42, 0x43, 0x44, 0x45}, Host: api.Mac{0x50, 0x51, 0x52, 0x53, 0x54, 0x55},
		Lo: 0x5657, Hi: 0x5859, Filter: 0x5a, Sess: 0x5b5c, Queue: 0x5d5e, Rate: 0x63646566, Burst: 0x67686970,
		Pool:    []uint32{0x71727374, 0x75767778, 0x797a7b7c},
		Statics: []api.Pair{{A: 0x80818283, B: 0x84858687}, {A: 0x88898a8b, B: 0x8c8d8e8f}},
		Twices:  []api.Pair{{A: 0x90919293, B: 0x94959697}},
	}
}

// fullBytes are full's, told by hand.
func fullBytes() []byte {
	return []byte("\x02ab" + "\x10\x11\x12\x13" + "\x20\x21\x22\x23\x24\x25\x26\x27" + "\x30\x31\x32\x33" +
		"\x40\x41\x42\x43\x44\x45" + "\x50\x51\x52\x53\x54\x55" + "\x56\x57" + "\x58\x59" + "\x5a" + "\x5b\x5c" + "\x5d\x5e" +
		"\x63\x64\x65\x66" + "\x67\x68\x69\x70" + "\x03" + "\x02" + "\x01" +
		"\x71\x72\x73\x74" + "\x75\x76\x77\x78" + "\x79\x7a\x7b\x7c" +
		"\x80\x81\x82\x83\x84\x85\x86\x87" + "\x88\x89\x8a\x8b\x8c\x8d\x8e\x8f" + "\x90\x91\x92\x93\x94\x95\x96\x97")
}

// lengths are those of names and lists, at and about where they are cut off.
func lengths() []int {
	return []int{0, 1, 2, 3, 127, 128, 254, 255, 256, 257, 300, 511, 512, 513, 1000}
}
