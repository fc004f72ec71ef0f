package cfg_test

import (
	"bytes"
	"strings"
	"testing"

	"lych/api"
	"lych/cfg"
)

// P12.2: the chapter's example.
func TestExample(t *testing.T) {
	if got := cfg.Change(api.Change{Name: "a"}); !bytes.Equal(got, []byte{0, 1, 0x61}) {
		t.Errorf("% x", got)
	}
	if got, err := cfg.OpenChange([]byte{0, 1, 0x61}); err != api.OK || !equalChanges(got, api.Change{Name: "a"}) {
		t.Errorf("%v, %v", got, err)
	}
}

// P12.2: with Put and without, the tenant or the name alone, whatever the other one is.
func TestChangeKnown(t *testing.T) {
	put := append([]byte{1}, fullBytes()...)
	rows := []struct {
		c    api.Change
		b    []byte
		back api.Change
	}{
		{api.Change{Put: true, Name: "ab", T: full()}, put, api.Change{Put: true, Name: "ab", T: full()}},
		{api.Change{Put: true, Name: "other", T: full()}, put, api.Change{Put: true, Name: "ab", T: full()}},
		{api.Change{Put: true, T: full()}, put, api.Change{Put: true, Name: "ab", T: full()}},
		{api.Change{Put: true, Name: "other"}, append([]byte{1}, make([]byte, bytesOfNothing)...), api.Change{Put: true}},
		{api.Change{Name: "other", T: full()}, []byte("\x00\x05other"), api.Change{Name: "other"}},
		{api.Change{T: full()}, []byte{0, 0}, api.Change{}},
		{api.Change{}, []byte{0, 0}, api.Change{}},
	}
	for i, row := range rows {
		if got := cfg.Change(row.c); !bytes.Equal(got, row.b) {
			t.Errorf("row %d: % x; want % x", i, got, row.b)
		}
		if got, err := cfg.OpenChange(row.b); err != api.OK || !equalChanges(got, row.back) {
			t.Errorf("row %d: %v, %v; want %v", i, got, err, row.back)
		}
	}
}

// P12.2: a name of a change is cut off as a tenant's is, and may have any bytes.
func TestChangeNames(t *testing.T) {
	for _, n := range append(lengths(), 65536) {
		for _, part := range []string{"n", "\x00", "\xff", "é", "ab\x00\xc3"} {
			name := strings.Repeat(part, n)[:n]
			wantChange(t, api.Change{Name: name})
			wantChange(t, api.Change{Put: true, Name: "x", T: api.Tenant{Name: name}})
			if got := cfg.Change(api.Change{Name: name}); len(got) != 2+min(n, 255) {
				t.Fatalf("%d: %d bytes", n, len(got))
			}
		}
	}
}

// P12.2: of nothing, of bytes that end ahead at each place, or that go on, there is no change.
func TestOpenChangeCut(t *testing.T) {
	wantNoChange(t, nil)
	wantNoChange(t, []byte{})
	r := random(10)
	for _, c := range []api.Change{
		{}, {Name: "a"}, {Name: strings.Repeat("n", 255)}, {Put: true}, {Put: true, T: full()}, {Put: true, T: randomTenant(r, 9)}, {Put: true, T: randomTenant(r, 300)},
	} {
		b := cfg.Change(c)
		for n := range b {
			wantNoChange(t, bytes.Clone(b[:n]))
		}
		for _, behind := range [][]byte{{0}, {1}, {0xff}, make([]byte, bytesOfNothing), make([]byte, 9000), cfg.Tenant(full()), b} {
			wantNoChange(t, append(bytes.Clone(b), behind...))
		}
		wantChange(t, c)
	}
}

// P12.2: each other first byte, ahead of what would be a name or a tenant, is no change.
func TestOpenChangeFirstByte(t *testing.T) {
	for _, c := range []api.Change{{}, {Name: "a"}, {Put: true}, {Put: true, T: full()}} {
		b := cfg.Change(c)
		for x := 2; x < 256; x++ {
			b[0] = byte(x)
			wantNoChange(t, b)
			wantNoChange(t, b[:1])
			wantNoChange(t, b[:2])
		}
	}
	name, put := cfg.Change(api.Change{Name: "a"}), cfg.Change(api.Change{Put: true, T: full()})
	name[0], put[0] = 1, 0
	wantNoChange(t, name)
	wantNoChange(t, put)
}

// P12.2: any bytes that are a change are written by the same bytes.
func TestOpenChangeAnyBytes(t *testing.T) {
	r := random(11)
	for range 50000 {
		b := cfg.Change(api.Change{Put: r.IntN(2) == 0, Name: string(randomBytes(r, r.IntN(5))), T: randomTenant(r, 4)})
		for range r.IntN(3) {
			b[r.IntN(len(b))] = byte(r.IntN(6))
		}
		b = append(b, randomBytes(r, r.IntN(2)*r.IntN(3))...)
		c, err := cfg.OpenChange(b)
		if err != api.OK {
			wantNoChange(t, b)
		} else if !bytes.Equal(cfg.Change(c), b) || c.Put != (b[0] == 1) || c.Put && c.Name != c.T.Name || !c.Put && !equalTenants(c.T, api.Tenant{}) {
			t.Fatalf("% x: %v", b, c)
		}
	}
	for n := range 400 {
		cfg.OpenChange(randomBytes(r, n))
		wantNoChange(t, bytes.Repeat([]byte{0xff}, n))
	}
}

// P12.4: what is written is read back, but for what was cut off.
func TestChangeBack(t *testing.T) {
	r := random(12)
	for range 2000 {
		x := randomTenant(r, []int{0, 3, 30, 300}[r.IntN(4)])
		wantChange(t, api.Change{Put: true, Name: x.Name, T: x})
		wantChange(t, api.Change{Put: true, Name: "other", T: x})
		wantChange(t, api.Change{Name: x.Name})
		wantChange(t, api.Change{Name: x.Name, T: x})
	}
}
