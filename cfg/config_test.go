package cfg_test

import (
	"bytes"
	"math"
	"testing"

	"lych/api"
	"lych/cfg"
)

// bytesOfNoTenants are how many settings have ahead of their tenants.
const bytesOfNoTenants = 35

// P12.2: settings and their bytes, told by hand.
func TestConfigKnown(t *testing.T) {
	c := api.Config{
		Ip: 0xa0a1a2a3, Mac: api.Mac{0xb0, 0xb1, 0xb2, 0xb3, 0xb4, 0xb5}, OutMac: api.Mac{0xc0, 0xc1, 0xc2, 0xc3, 0xc4, 0xc5},
		NextMac: api.Mac{0xd0, 0xd1, 0xd2, 0xd3, 0xd4, 0xd5}, Key: [8]byte{0xe0, 0xe1, 0xe2, 0xe3, 0xe4, 0xe5, 0xe6, 0xe7}, Drain: 0xf0f1f2f3,
		Tenants: []api.Tenant{full(), {}, full()},
	}
	want := []byte("\xa0\xa1\xa2\xa3" + "\xb0\xb1\xb2\xb3\xb4\xb5" + "\xc0\xc1\xc2\xc3\xc4\xc5" + "\xd0\xd1\xd2\xd3\xd4\xd5" +
		"\xe0\xe1\xe2\xe3\xe4\xe5\xe6\xe7" + "\xf0\xf1\xf2\xf3" + "\x03")
	want = append(want, fullBytes()...)
	want = append(want, make([]byte, bytesOfNothing)...)
	want = append(want, fullBytes()...)
	if got := cfg.Config(c); !bytes.Equal(got, want) {
		t.Errorf("% x", got)
	}
	if got, err := cfg.OpenConfig(want); err != api.OK || !equalConfigs(got, c) {
		t.Errorf("%v, %v", got, err)
	}
}

// P12.2: each field by itself, at its bits each and at its greatest.
func TestConfigFields(t *testing.T) {
	noughts := make([]byte, bytesOfNoTenants)
	if got := cfg.Config(api.Config{}); !bytes.Equal(got, noughts) {
		t.Fatalf("% x", got)
	}
	rows := []struct {
		what     string
		at, size int
		set      func(*api.Config, uint64)
	}{
		{"Ip", 0, 4, func(c *api.Config, n uint64) { c.Ip = uint32(n) }},
		{"Mac", 4, 6, func(c *api.Config, n uint64) { copy(c.Mac[:], big(n)[2:]) }},
		{"OutMac", 10, 6, func(c *api.Config, n uint64) { copy(c.OutMac[:], big(n)[2:]) }},
		{"NextMac", 16, 6, func(c *api.Config, n uint64) { copy(c.NextMac[:], big(n)[2:]) }},
		{"Key", 22, 8, func(c *api.Config, n uint64) { copy(c.Key[:], big(n)) }},
		{"Drain", 30, 4, func(c *api.Config, n uint64) { c.Drain = uint32(n) }},
	}
	for _, row := range rows {
		numbers := []uint64{0, math.MaxUint64 >> (64 - 8*row.size), 0x0123456789abcdef >> (64 - 8*row.size)}
		for bit := range 8 * row.size {
			numbers = append(numbers, 1<<bit)
		}
		for _, n := range numbers {
			c := api.Config{}
			row.set(&c, n)
			want := bytes.Clone(noughts)
			copy(want[row.at:], big(n)[8-row.size:])
			if got := cfg.Config(c); !bytes.Equal(got, want) {
				t.Fatalf("%s of %x: % x; want % x", row.what, n, got, want)
			}
			if got, err := cfg.OpenConfig(want); err != api.OK || !equalConfigs(got, c) {
				t.Fatalf("%s of %x: %v, %v", row.what, n, got, err)
			}
		}
	}
}

// P12.2: of tenants at most 255, in order as they stand.
func TestConfigTenants(t *testing.T) {
	r := random(6)
	for _, n := range lengths() {
		c := randomConfig(r, n, 3)
		b := cfg.Config(c)
		if int(b[bytesOfNoTenants-1]) != min(n, 255) {
			t.Fatalf("of %d tenants %d", n, b[bytesOfNoTenants-1])
		}
		wantConfig(t, c)
		wantConfig(t, api.Config{Tenants: make([]api.Tenant, n)})
	}
	one, two := api.Tenant{Name: "one"}, api.Tenant{Name: "two"}
	for _, list := range [][]api.Tenant{{one, two}, {two, one}, {two, two}} {
		wantConfig(t, api.Config{Tenants: list})
	}
}

// P12.2: of nothing, of bytes that end ahead at each place, or that go on, there are no settings.
func TestOpenConfigCut(t *testing.T) {
	wantNoConfig(t, nil)
	wantNoConfig(t, []byte{})
	r := random(7)
	for _, c := range []api.Config{{}, randomConfig(r, 0, 0), {Tenants: []api.Tenant{full()}}, {Tenants: make([]api.Tenant, 3)}, randomConfig(r, 2, 9), randomConfig(r, 4, 40)} {
		b := cfg.Config(c)
		for n := range b {
			wantNoConfig(t, bytes.Clone(b[:n]))
		}
		for _, behind := range [][]byte{{0}, {1}, {0xff}, make([]byte, bytesOfNothing), make([]byte, 9000), cfg.Tenant(full()), b} {
			wantNoConfig(t, append(bytes.Clone(b), behind...))
		}
		wantConfig(t, c)
	}
}

// P12.2: a number of tenants that is another than there are.
func TestOpenConfigLengths(t *testing.T) {
	for there := range 256 {
		b := make([]byte, bytesOfNoTenants+there*bytesOfNothing)
		for said := range 256 {
			b[bytesOfNoTenants-1] = byte(said)
			if said != there {
				wantNoConfig(t, b)
			} else if c, err := cfg.OpenConfig(b); err != api.OK || len(c.Tenants) != there {
				t.Fatalf("%d: %d, %v", there, len(c.Tenants), err)
			}
		}
	}
}

// P12.2: any bytes that are settings are written by the same bytes.
func TestOpenConfigAnyBytes(t *testing.T) {
	r := random(8)
	right := 0
	for range 30000 {
		b := cfg.Config(randomConfig(r, r.IntN(4), 4))
		for range r.IntN(3) {
			b[r.IntN(len(b))] = byte(r.IntN(6))
		}
		b = append(b, randomBytes(r, r.IntN(2)*r.IntN(3))...)
		c, err := cfg.OpenConfig(b)
		if err != api.OK {
			wantNoConfig(t, b)
			continue
		}
		right++
		if !bytes.Equal(cfg.Config(c), b) {
			t.Fatalf("% x: %v", b, c)
		}
	}
	if right < 5000 {
		t.Errorf("%d alone were settings", right)
	}
	for n := range 400 {
		wantNoConfig(t, bytes.Repeat([]byte{0xff}, n))
		cfg.OpenConfig(randomBytes(r, n))
	}
}

// P12.4: what is written is read back, but for what was cut off.
func TestConfigBack(t *testing.T) {
	r := random(9)
	for range 1000 {
		c := randomConfig(r, r.IntN(17), []int{0, 3, 16}[r.IntN(3)])
		wantConfig(t, c)
		d, _ := cfg.OpenConfig(cfg.Config(c))
		if e, err := cfg.OpenConfig(cfg.Config(d)); err != api.OK || !equalConfigs(d, e) {
			t.Fatalf("%v, %v, %v", d, e, err)
		}
	}
	wantConfig(t, randomConfig(r, 300, 300))
}
