package valid_test

import (
	"fmt"
	"testing"

	"lych/api"
)

// P14.1: a filter is one of the three.
func TestFilter(t *testing.T) {
	for filter, want := range map[int]api.Errno{-1 << 63: 94, -2: 94, -1: 94, 0: 0, 1: 0, 2: 0, 3: 94, 4: 94, 256: 94, 1 << 32: 94, 1<<63 - 1: 94} {
		wantTenant(t, fmt.Sprint(filter), with(func(x *api.Tenant) { x.Filter = filter }), want)
	}
}

// P14.1: there are up to MaxRules Statics and up to MaxRules Twices, each by themselves.
func TestRulesLength(t *testing.T) {
	lengths := []int{0, 1, 8, 15, 16, 17, 18, 32, 256, 272}
	for _, statics := range lengths {
		for _, twices := range lengths {
			want := api.OK
			if statics > 16 || twices > 16 {
				want = api.ErrRule
			}
			wantTenant(t, fmt.Sprintf("%d statics, %d twices", statics, twices), with(func(x *api.Tenant) {
				x.Statics, x.Twices = pairs(0x0a000000, 0x06000000, statics), pairs(0x0a000000, 0x06000000, twices)
			}), want)
		}
	}
	wantTenant(t, "empty", with(func(x *api.Tenant) { x.Statics, x.Twices = []api.Pair{}, []api.Pair{} }), api.OK)
}

// places are the four places of a rule.
var places = []struct {
	what string
	of   func(x *api.Tenant, i int) *uint32
}{
	{"static's a", func(x *api.Tenant, i int) *uint32 { return &x.Statics[i].A }},
	{"static's b", func(x *api.Tenant, i int) *uint32 { return &x.Statics[i].B }},
	{"twice's a", func(x *api.Tenant, i int) *uint32 { return &x.Twices[i].A }},
	{"twice's b", func(x *api.Tenant, i int) *uint32 { return &x.Twices[i].B }},
}

// manyRules tells a tenant of MaxRules of both kinds, of addresses that are all unlike.
func manyRules() api.Tenant {
	return with(func(x *api.Tenant) {
		x.Statics, x.Twices = pairs(0x0a000100, 0x06000000, 16), pairs(0x0a000200, 0x08080800, 16)
	})
}

// P14.1: no address of a rule is 0, and none stands twice in its place, near to one another or far.
func TestRulesAddresses(t *testing.T) {
	wantTenant(t, "as it is", manyRules(), api.OK)
	for _, p := range places {
		for i := range 16 {
			x := manyRules()
			*p.of(&x, i) = 0
			wantTenant(t, fmt.Sprintf("%s %d is 0", p.what, i), x, api.ErrRule)
			for k := range i {
				x := manyRules()
				*p.of(&x, i) = *p.of(&x, k)
				wantTenant(t, fmt.Sprintf("%s %d as %d", p.what, i, k), x, api.ErrRule)
			}
		}
	}
}

// P14.1: of one place and another only a Twice's A as a Static's B is wrong; the others may be the same, of one rule or of two.
func TestRulesPlaces(t *testing.T) {
	for one, p := range places {
		for other, q := range places {
			if one == other {
				continue
			}
			want := api.OK
			if one == 1 && other == 2 || one == 2 && other == 1 {
				want = api.ErrRule
			}
			for i := range 16 {
				for k := range 16 {
					x := manyRules()
					*p.of(&x, i) = *q.of(&x, k)
					wantTenant(t, fmt.Sprintf("%s %d as %s %d", p.what, i, q.what, k), x, want)
				}
			}
		}
	}
	wantTenant(t, "statics of one another", with(func(x *api.Tenant) { x.Statics = []api.Pair{{A: 1, B: 2}, {A: 2, B: 1}} }), api.OK)
	wantTenant(t, "a static of itself", with(func(x *api.Tenant) { x.Statics = []api.Pair{{A: 7, B: 7}} }), api.OK)
	wantTenant(t, "a twice of itself", with(func(x *api.Tenant) { x.Twices = []api.Pair{{A: 7, B: 7}} }), api.OK)
	wantTenant(t, "twices of one another", with(func(x *api.Tenant) { x.Twices = []api.Pair{{A: 1, B: 2}, {A: 2, B: 1}} }), api.OK)
}

// P14.1: of the pool neither a Static's B may be, nor a Twice's A; the others may.
func TestRulesAndPool(t *testing.T) {
	for place, p := range places {
		want := api.OK
		if place == 1 || place == 2 {
			want = api.ErrRule
		}
		for i := range 16 {
			for k := range 8 {
				x := manyRules()
				x.Pool = ips(0x06100000, 8)
				*p.of(&x, i) = x.Pool[k]
				wantTenant(t, fmt.Sprintf("%s %d in the pool at %d", p.what, i, k), x, want)
			}
		}
	}
}
