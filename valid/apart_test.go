package valid_test

import (
	"testing"

	"lych/api"
	"lych/valid"
)

// wantApart holds settings that Check takes to P14.4.
func wantApart(t *testing.T, c api.Config) {
	t.Helper()
	for i, one := range c.Tenants {
		for _, other := range c.Tenants[:i] {
			if one.Vni == other.Vni || one.Name == other.Name {
				t.Fatalf("%v and %v", one, other)
			}
			for _, ip := range owned(one) {
				if valid.Owns(other, ip) {
					t.Fatalf("%x is owned by %v and %v", ip, one, other)
				}
			}
			for _, ip := range owned(other) {
				if valid.Owns(one, ip) {
					t.Fatalf("%x is owned by %v and %v", ip, one, other)
				}
			}
		}
	}
}

// P14.4: no two tenants of settings that Check takes own one address, or have one network; of those that do it takes none.
func TestApart(t *testing.T) {
	wantApart(t, rights(16))
	r := random(4)
	taken := 0
	for range 100000 {
		c := randomSettings(r, 5)
		if valid.Check(c) == api.OK {
			wantApart(t, c)
			taken++
		}
	}
	if taken < 10000 {
		t.Errorf("only %d are taken", taken)
	}
}

// P14.4: of right settings, each network and each owned address put elsewhere makes them wrong.
func TestNotApart(t *testing.T) {
	r := random(5)
	for range 2000 {
		n := 2 + r.IntN(15)
		i, k := r.IntN(n), r.IntN(n)
		if i == k {
			continue
		}
		one, other := pick(r, owning...), pick(r, owning...)
		c := changed(n, func(list []api.Tenant, _ *api.Config) { *one.of(&list[i]) = *other.of(&list[k]) })
		wantCheck(t, one.what+" as "+other.what, c, api.ErrPool)
		c = changed(n, func(list []api.Tenant, _ *api.Config) { list[i].Vni = list[k].Vni })
		wantCheck(t, "network", c, api.ErrVni)
	}
}
