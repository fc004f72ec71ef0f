package cfg_test

import (
	"bytes"
	"testing"

	"lych/api"
	"lych/cfg"
)

// spoil writes over a list, and over all its room.
func spoil[E any](list []E, with E) {
	list = list[:cap(list)]
	for i := range list {
		list[i] = with
	}
}

// roomy tells list with room behind it that isn't blank, and a function that tells whether all of it is as it was.
func roomy[E comparable](list []E, filler E) ([]E, func() bool) {
	whole := append([]E(nil), list...)
	for range 5 {
		whole = append(whole, filler)
	}
	before := append([]E(nil), whole...)
	return whole[:len(list)], func() bool {
		for i := range whole {
			if whole[i] != before[i] {
				return false
			}
		}
		return true
	}
}

// roomyTenant is roomy of a tenant's lists.
func roomyTenant(t api.Tenant) (api.Tenant, func() bool) {
	var was [3]func() bool
	t.Pool, was[0] = roomy(t.Pool, 0x5a5a5a5a)
	t.Statics, was[1] = roomy(t.Statics, api.Pair{A: 0x5a, B: 0xa5})
	t.Twices, was[2] = roomy(t.Twices, api.Pair{A: 0x5a, B: 0xa5})
	return t, func() bool { return was[0]() && was[1]() && was[2]() }
}

// spoilTenant is spoil of a tenant's lists.
func spoilTenant(t api.Tenant) {
	spoil(t.Pool, 0xdddddddd)
	spoil(t.Statics, api.Pair{A: 0xdddddddd})
	spoil(t.Twices, api.Pair{A: 0xdddddddd})
}

// DOC.md, what holds everywhere, 3: what writes neither changes nor keeps what it is handed, nor the room behind it.
func TestWritingKeepsNothing(t *testing.T) {
	r := random(14)
	for range 300 {
		most := []int{0, 3, 300}[r.IntN(3)]
		x, was := roomyTenant(randomTenant(r, most))
		want := tenantBytes(x)
		whole, config := cfg.Tenant(x), cfg.Config(api.Config{Tenants: []api.Tenant{x, x}[:1]})
		change := cfg.Change(api.Change{Put: true, T: x})
		cfg.Change(api.Change{Name: "a", T: x})
		cfg.Same(x, x)
		if !was() {
			t.Fatal("changed by a call")
		}
		spoilTenant(x)
		if !bytes.Equal(whole, want) || !bytes.Equal(config[bytesOfNoTenants:], want) || !bytes.Equal(change[1:], want) {
			t.Fatal("an answer is changed by what was handed in")
		}
	}
	x, was := roomyTenant(full())
	for _, b := range [][]byte{cfg.Tenant(x), cfg.Config(api.Config{Tenants: []api.Tenant{x}}), cfg.Change(api.Change{Put: true, T: x})} {
		spoil(b, 0xdd)
		if !was() || !equalTenants(x, full()) {
			t.Fatal("changed by an answer")
		}
	}
}

// DOC.md, what holds everywhere, 3: Config neither changes its list of tenants nor the room behind it.
func TestConfigKeepsNothing(t *testing.T) {
	list := []api.Tenant{full(), {Name: "b"}, {Name: "behind"}}
	c := api.Config{Tenants: list[:2]}
	b := cfg.Config(c)
	want := bytes.Clone(b)
	if !equalTenants(list[0], full()) || !equalTenants(list[1], api.Tenant{Name: "b"}) || !equalTenants(list[2], api.Tenant{Name: "behind"}) {
		t.Errorf("changed: %v", list)
	}
	clear(list)
	if !bytes.Equal(b, want) {
		t.Errorf("% x", b)
	}
}

// DOC.md, what holds everywhere, 3: Same changes neither of its two, nor the room behind them.
func TestSameChangesNothing(t *testing.T) {
	x, wasX := roomyTenant(full())
	y, wasY := roomyTenant(full())
	y.Pool[0]++
	cfg.Same(x, y)
	y.Pool[0]--
	cfg.Same(x, y)
	if !wasX() || !wasY() || !equalTenants(x, y) {
		t.Errorf("%v, %v", x, y)
	}
}

// DOC.md, what holds everywhere, 3: what reads neither changes nor keeps its bytes, nor the room behind them.
func TestReadingKeepsNothing(t *testing.T) {
	r := random(15)
	for range 300 {
		x := randomTenant(r, 9)
		c := randomConfig(r, r.IntN(4), 9)
		for kind, bare := range [][]byte{tenantBytes(x), configBytes(c), changeBytes(api.Change{Put: true, T: x}), changeBytes(api.Change{Name: x.Name})} {
			b, was := roomy(bare, 0x5a)
			if r.IntN(4) == 0 {
				b = b[:r.IntN(len(b))]
			}
			gotT, _, errT := cfg.OpenTenant(b)
			gotC, errC := cfg.OpenConfig(b)
			gotH, errH := cfg.OpenChange(b)
			if !was() {
				t.Fatal("changed by a call")
			}
			wantT, _, _ := cfg.OpenTenant(bytes.Clone(b))
			wantC, _ := cfg.OpenConfig(bytes.Clone(b))
			wantH, _ := cfg.OpenChange(bytes.Clone(b))
			spoil(b, 0xdd)
			if !equalTenants(gotT, wantT) || !equalConfigs(gotC, wantC) || !equalChanges(gotH, wantH) {
				t.Fatalf("kind %d: an answer is changed by its bytes: %v, %v, %v", kind, errT, errC, errH)
			}
		}
	}
}

// DOC.md, what holds everywhere, 3: spare room makes no short row one that is read, though the rest lies there.
func TestSpareRoomSaysNothing(t *testing.T) {
	tenant, config, change := cfg.Tenant(full()), cfg.Config(api.Config{Tenants: []api.Tenant{full()}}), cfg.Change(api.Change{Put: true, T: full()})
	for n := range tenant {
		wantNoTenant(t, tenant[:n])
	}
	for n := range config {
		wantNoConfig(t, config[:n])
	}
	for n := range change {
		wantNoChange(t, change[:n])
	}
	row := append(bytes.Clone(change), 1, 2, 3)
	if got, err := cfg.OpenChange(row[:len(change)]); err != api.OK || !equalTenants(got.T, full()) {
		t.Errorf("%v, %v", got, err)
	}
}

// wantApart holds the lists of tenants of one answer to memory of their own: each is written over in its turn, and all the others are as want says.
func wantApart(t *testing.T, answer func() []api.Tenant, want []api.Tenant) {
	t.Helper()
	for i := range want {
		for part := range 3 {
			list := answer()
			left := append([]api.Tenant(nil), want...)
			switch part {
			case 0:
				spoil(list[i].Pool, 0xdddddddd)
				left[i].Pool, list[i].Pool = nil, nil
			case 1:
				spoil(list[i].Statics, api.Pair{A: 0xdddddddd})
				left[i].Statics, list[i].Statics = nil, nil
			case 2:
				spoil(list[i].Twices, api.Pair{A: 0xdddddddd})
				left[i].Twices, list[i].Twices = nil, nil
			}
			for k := range left {
				if !equalTenants(list[k], left[k]) {
					t.Fatalf("tenant %d, list %d: %v; want %v", i, part, list[k], left[k])
				}
			}
		}
	}
}

// DOC.md, what holds everywhere, 3: no two lists of one answer share memory, nor do those of two answers.
func TestAnswersShareNothing(t *testing.T) {
	x := full()
	x.Twices = append(x.Twices, x.Statics...)
	config := cfg.Config(api.Config{Tenants: []api.Tenant{x, x, full()}})
	wantApart(t, func() []api.Tenant { y, _, _ := cfg.OpenTenant(cfg.Tenant(x)); return []api.Tenant{y} }, []api.Tenant{x})
	wantApart(t, func() []api.Tenant {
		y, _ := cfg.OpenChange(cfg.Change(api.Change{Put: true, T: x}))
		return []api.Tenant{y.T}
	}, []api.Tenant{x})
	wantApart(t, func() []api.Tenant { c, _ := cfg.OpenConfig(config); return c.Tenants }, []api.Tenant{x, x, full()})
	one, _ := cfg.OpenConfig(config)
	two, _ := cfg.OpenConfig(config)
	for _, y := range one.Tenants {
		spoilTenant(y)
	}
	spoil(one.Tenants, api.Tenant{})
	if !equalConfigs(two, api.Config{Tenants: []api.Tenant{x, x, full()}}) {
		t.Errorf("%v", two)
	}
	for _, write := range []func() []byte{
		func() []byte { return cfg.Tenant(x) },
		func() []byte { return cfg.Config(one) },
		func() []byte { return cfg.Change(api.Change{Put: true, T: x}) },
		func() []byte { return cfg.Change(api.Change{Name: "a"}) },
	} {
		first, second := write(), write()
		was := bytes.Clone(second)
		spoil(first, 0xdd)
		if !bytes.Equal(second, was) || !bytes.Equal(write(), was) {
			t.Errorf("% x; was % x", second, was)
		}
	}
}

// DOC.md, what holds everywhere, 8: what is answered hangs on nothing that was asked ahead of it, whether that could be read or not.
func TestNothingIsKept(t *testing.T) {
	r := random(16)
	for range 300 {
		b := randomBytes(r, r.IntN(200))
		cfg.OpenTenant(b)
		cfg.OpenConfig(b)
		cfg.OpenChange(b)
		cfg.Config(randomConfig(r, r.IntN(3), 5))
		wantOpen(t, fullBytes(), full(), len(fullBytes()))
		wantOpen(t, make([]byte, bytesOfNothing), api.Tenant{}, bytesOfNothing)
		wantTenant(t, full())
		wantChange(t, api.Change{Name: "a"})
	}
}
