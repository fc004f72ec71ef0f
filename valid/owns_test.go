package valid_test

import (
	"slices"
	"testing"

	"lych/api"
	"lych/valid"
)

// wantOwns holds Owns to an answer.
func wantOwns(t *testing.T, x api.Tenant, ip uint32, want bool) {
	t.Helper()
	if got := valid.Owns(x, ip); got != want {
		t.Fatalf("Owns(%v, %x) = %v", x, ip, got)
	}
}

// P14.3: the pool's and the Statics' outsides are owned, wherever they stand; their insides, Twices, tunnel ends aren't.
func TestOwns(t *testing.T) {
	x := manyRules()
	x.Pool = ips(0x06100000, 8)
	for _, ip := range x.Pool {
		wantOwns(t, x, ip, true)
	}
	for _, p := range x.Statics {
		wantOwns(t, x, p.B, true)
		wantOwns(t, x, p.A, false)
	}
	for _, p := range x.Twices {
		wantOwns(t, x, p.A, false)
		wantOwns(t, x, p.B, false)
	}
	for _, ip := range []uint32{0, x.Vtep, x.Vni, uint32(x.Lo), x.Pool[0] - 1, x.Pool[7] + 1, x.Statics[0].B - 1, x.Statics[15].B + 1, 1<<32 - 1} {
		wantOwns(t, x, ip, false)
	}
}

// P14.3: what is owned and stands elsewhere too is owned.
func TestOwnsInTwoPlaces(t *testing.T) {
	wantOwns(t, api.Tenant{Pool: []uint32{5}, Statics: []api.Pair{{A: 5, B: 6}}, Twices: []api.Pair{{A: 5, B: 5}}}, 5, true)
	wantOwns(t, api.Tenant{Statics: []api.Pair{{A: 7, B: 7}}}, 7, true)
	wantOwns(t, api.Tenant{Statics: []api.Pair{{A: 1, B: 2}, {A: 2, B: 1}}}, 2, true)
}

// P14.3: of tenants that may not be the same is asked: one of nothing, one that has 0, lists past their bounds.
func TestOwnsOfWrongTenants(t *testing.T) {
	wantOwns(t, api.Tenant{}, 0, false)
	wantOwns(t, api.Tenant{Pool: []uint32{}, Statics: []api.Pair{}}, 0, false)
	wantOwns(t, api.Tenant{Statics: []api.Pair{{A: 0, B: 9}}, Twices: []api.Pair{{}}}, 0, false)
	wantOwns(t, api.Tenant{Pool: []uint32{1, 0}}, 0, true)
	wantOwns(t, api.Tenant{Statics: []api.Pair{{A: 1, B: 2}, {A: 9, B: 0}}}, 0, true)
	many := api.Tenant{Pool: ips(1000, 5000), Statics: pairs(1, 10000, 5000)}
	for ip, want := range map[uint32]bool{999: false, 1000: true, 1008: true, 5999: true, 6000: false, 9999: false, 10000: true, 10016: true, 14999: true, 15000: false} {
		wantOwns(t, many, ip, want)
	}
}

// P14.3: any tenant and address.
func TestOwnsAny(t *testing.T) {
	r := random(3)
	yes := 0
	for range 50000 {
		x := randomTenant(r, r.IntN(3), 1)
		ip := pick[uint32](r, 0, 0x0a000000, 0x05050000) + r.Uint32N(300)
		if list := owned(x); len(list) > 0 && r.IntN(2) == 0 {
			ip = pick(r, list...)
		}
		want := slices.Contains(owned(x), ip)
		wantOwns(t, x, ip, want)
		if want {
			yes++
		}
	}
	if yes < 5000 {
		t.Errorf("only %d are owned", yes)
	}
}
