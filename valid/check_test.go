package valid_test

import (
	"fmt"
	"slices"
	"strings"
	"testing"

	"lych/api"
	"lych/valid"
)

// The example: two tenants with one pool.
func TestExample(t *testing.T) {
	c := changed(2, func(list []api.Tenant, _ *api.Config) { list[1].Pool = slices.Clone(list[0].Pool) })
	wantCheck(t, "one pool", c, api.ErrPool)
}

// P14.2: settings that may be, of no tenants up to MaxTenants; one more is one too many, and ahead of any tenant's fault.
func TestTenants(t *testing.T) {
	for n, want := range map[int]api.Errno{0: 0, 1: 0, 2: 0, 15: 0, 16: 0, 17: 96, 18: 96, 256: 96, 272: 96} {
		wantCheck(t, fmt.Sprint(n), rights(n), want)
	}
	for n, want := range map[int]api.Errno{1: 90, 2: 90, 15: 90, 16: 90, 17: 96, 18: 96, 256: 96, 272: 96} {
		wantCheck(t, fmt.Sprint(n, " of nothing"), settings(make([]api.Tenant, n)...), want)
	}
	wantCheck(t, "empty", settings([]api.Tenant{}...), api.OK)
	wantCheck(t, "nothing", api.Config{}, api.ErrGateway)
}

// P14.2: of the settings themselves nothing is asked but Ip, Drain and how many tenants there are, and this ahead of all tenants.
func TestGateway(t *testing.T) {
	for _, n := range []int{0, 1, 3, 16} {
		for ip, want := range map[uint32]api.Errno{0: 96, 1: 0, 1 << 31: 0, 1<<32 - 1: 0} {
			wantCheck(t, fmt.Sprint("ip ", ip), changed(n, func(_ []api.Tenant, c *api.Config) { c.Ip = ip }), want)
		}
		for drain, want := range map[uint32]api.Errno{0: 0, 1: 0, 999: 0, 1000: 0, 1001: 96, 1 << 31: 96, 1<<32 - 1: 96} {
			wantCheck(t, fmt.Sprint("drain ", drain), changed(n, func(_ []api.Tenant, c *api.Config) { c.Drain = drain }), want)
		}
		wantCheck(t, "no keys, no Ethernet addresses", api.Config{Ip: 1, Tenants: rights(n).Tenants}, api.OK)
	}
	for _, f := range allFaults {
		wantCheck(t, "no ip, "+f.what, changed(2, func(list []api.Tenant, c *api.Config) { c.Ip = 0; f.change(&list[0]) }), api.ErrGateway)
		wantCheck(t, "long drain, "+f.what, changed(2, func(list []api.Tenant, c *api.Config) { c.Drain = 1001; f.change(&list[0]) }), api.ErrGateway)
		wantCheck(t, "many, "+f.what, changed(17, func(list []api.Tenant, c *api.Config) { f.change(&list[0]) }), api.ErrGateway)
	}
}

// P14.2: each tenant's own fault is told, wherever it stands.
func TestTenantsFaults(t *testing.T) {
	for _, f := range allFaults {
		for _, i := range []int{0, 1, 7, 15} {
			// Its addresses are those of the first tenant: a fault of its own comes ahead of that.
			c := changed(16, func(list []api.Tenant, _ *api.Config) {
				list[i] = with(f.change)
				if f.err != api.ErrName {
					list[i].Name = right(i).Name
				}
				if f.err != api.ErrVni {
					list[i].Vni = right(i).Vni
				}
			})
			wantCheck(t, fmt.Sprintf("%s at %d", f.what, i), c, f.err)
		}
	}
}

// P14.2: a name is behind the one ahead, by bytes.
func TestNamesInOrder(t *testing.T) {
	long := strings.Repeat("z", 31)
	inOrder := []string{
		"a", "a-", "a-0", "a0", "a00", "a9", "aa", "aa-", "ab", "b", "z", "z-", "zz", long, long + "a", long + "z",
		"\u0080", "\u00e9", "\u00e9-", "\u00e9a", "\u00e9\u0080", "\u00ea", "\u07ff", "\u0800", "\u754c", "\ud7ff", "\ue000", "\ufffd", "\U00010000", "\U0001f642", "\U0010ffff",
	}
	for i, one := range inOrder {
		for k, other := range inOrder {
			want := api.OK
			if i >= k {
				want = api.ErrName
			}
			c := changed(2, func(list []api.Tenant, _ *api.Config) { list[0].Name, list[1].Name = one, other })
			wantCheck(t, fmt.Sprintf("%q, %q", one, other), c, want)
		}
	}
	for i := 1; i < 16; i++ {
		wantCheck(t, fmt.Sprint("as the one ahead ", i), changed(16, func(list []api.Tenant, _ *api.Config) { list[i].Name = list[i-1].Name }), api.ErrName)
		wantCheck(t, fmt.Sprint("ahead of it ", i), changed(16, func(list []api.Tenant, _ *api.Config) { list[i].Name = "a" }), api.ErrName)
		wantCheck(t, fmt.Sprint("two of them ", i), changed(16, func(list []api.Tenant, _ *api.Config) {
			list[i].Name, list[i-1].Name = list[i-1].Name, list[i].Name
		}), api.ErrName)
	}
}

// P14.2: no network is there twice, wherever the two stand.
func TestNetworks(t *testing.T) {
	for i := range 16 {
		for k := range i {
			wantCheck(t, fmt.Sprint(k, i), changed(16, func(list []api.Tenant, _ *api.Config) { list[i].Vni = list[k].Vni }), api.ErrVni)
		}
	}
	c := changed(16, func(list []api.Tenant, _ *api.Config) {
		for i := range list {
			list[i].Vni = 200 - list[i].Vni
		}
	})
	wantCheck(t, "in no order", c, api.OK)
}

// owning are the places of what a tenant owns.
var owning = []struct {
	what string
	of   func(*api.Tenant) *uint32
}{
	{"pool's first", func(x *api.Tenant) *uint32 { return &x.Pool[0] }},
	{"pool's last", func(x *api.Tenant) *uint32 { return &x.Pool[len(x.Pool)-1] }},
	{"static's first", func(x *api.Tenant) *uint32 { return &x.Statics[0].B }},
	{"static's last", func(x *api.Tenant) *uint32 { return &x.Statics[len(x.Statics)-1].B }},
}

// P14.2: no address is owned twice: pool and pool, pool and Static, Static and Static, wherever the two tenants stand.
func TestOwnedTwice(t *testing.T) {
	for _, one := range owning {
		for _, other := range owning {
			for i := range 16 {
				for k := range i {
					c := changed(16, func(list []api.Tenant, _ *api.Config) { *one.of(&list[i]) = *other.of(&list[k]) })
					wantCheck(t, fmt.Sprintf("%s of %d as %s of %d", one.what, i, other.what, k), c, api.ErrPool)
				}
			}
		}
	}
}

// P14.2: the gateway's Ip is nobody's, and no address that isn't owned counts.
func TestGatewaysOwn(t *testing.T) {
	for i := range 16 {
		for _, p := range owning {
			c := changed(16, func(list []api.Tenant, c *api.Config) { *p.of(&list[i]) = c.Ip })
			wantCheck(t, fmt.Sprintf("%s of %d", p.what, i), c, api.ErrPool)
			c = changed(16, func(list []api.Tenant, c *api.Config) { c.Ip = *p.of(&list[i]) })
			wantCheck(t, fmt.Sprintf("as %s of %d", p.what, i), c, api.ErrPool)
		}
		for k := range 16 {
			if i != k {
				wantCheck(t, fmt.Sprint("not owned: ", i, k), changed(16, func(list []api.Tenant, c *api.Config) {
					list[i].Statics[0].A, list[i].Twices[1].A, list[i].Twices[0].B = list[k].Pool[0], list[k].Statics[0].B, list[k].Statics[1].B
					list[i].Vtep = list[k].Pool[1]
				}), api.OK)
			}
		}
	}
	wantCheck(t, "the gateway's, not owned", changed(2, func(list []api.Tenant, c *api.Config) {
		list[0].Statics[0].A, list[0].Twices[0], list[0].Vtep = c.Ip, api.Pair{A: c.Ip, B: c.Ip}, c.Ip
	}), api.OK)
}

// P14.2: of one tenant's errors that of Tenant comes first, then its name's, its network's, its addresses'.
func TestFirstOfATenant(t *testing.T) {
	name := func(list []api.Tenant) { list[2].Name = list[1].Name }
	vni := func(list []api.Tenant) { list[2].Vni = list[0].Vni }
	pool := func(list []api.Tenant) { list[2].Pool[0] = list[0].Statics[0].B }
	for _, f := range allFaults {
		c := changed(3, func(list []api.Tenant, _ *api.Config) {
			name(list)
			vni(list)
			pool(list)
			if f.err == api.ErrRule && strings.Contains(f.what, "pool") {
				list[2].Pool[0] = 0x05050001
			}
			if strings.Contains(f.what, "as static's b") {
				list[2].Statics[0].B = 0x05050008
			}
			f.change(&list[2])
		})
		wantCheck(t, f.what, c, f.err)
	}
	wantCheck(t, "all three", changed(3, func(list []api.Tenant, _ *api.Config) { pool(list); vni(list); name(list) }), api.ErrName)
	wantCheck(t, "name and pool", changed(3, func(list []api.Tenant, _ *api.Config) { pool(list); name(list) }), api.ErrName)
	wantCheck(t, "name and vni", changed(3, func(list []api.Tenant, _ *api.Config) { vni(list); name(list) }), api.ErrName)
	wantCheck(t, "vni and pool", changed(3, func(list []api.Tenant, _ *api.Config) { pool(list); vni(list) }), api.ErrVni)
}

// P14.2: a fault of a tenant ahead is told, whatever one behind has.
func TestFirstTenant(t *testing.T) {
	among := []struct {
		err    api.Errno
		change func(list []api.Tenant, i int)
	}{
		{api.ErrName, func(list []api.Tenant, i int) { list[i].Name = list[i-1].Name }},
		{api.ErrVni, func(list []api.Tenant, i int) { list[i].Vni = list[0].Vni }},
		{api.ErrPool, func(list []api.Tenant, i int) { list[i].Statics[1].B = list[0].Pool[0] }},
		{api.ErrGateway, func(list []api.Tenant, i int) { list[i].Vtep = 0 }},
		{api.ErrQuota, func(list []api.Tenant, i int) { list[i].Queue = 0 }},
		{api.ErrRule, func(list []api.Tenant, i int) { list[i].Filter = 3 }},
		{api.ErrPorts, func(list []api.Tenant, i int) { list[i].Lo = 0 }},
	}
	for _, one := range among {
		for _, other := range among {
			c := changed(6, func(list []api.Tenant, _ *api.Config) {
				other.change(list, 4)
				one.change(list, 2)
			})
			wantCheck(t, fmt.Sprintf("%v ahead of %v", one.err, other.err), c, one.err)
		}
	}
}

// P14.2: any settings, against the model.
func TestAnySettings(t *testing.T) {
	r := random(2)
	told := map[api.Errno]int{}
	for range 100000 {
		c := randomSettings(r, 6)
		got, want := valid.Check(c), modelCheck(c)
		if got != want {
			t.Fatalf("Check(%v) = %v; want %v", c, got, want)
		}
		told[want]++
	}
	wantAllTold(t, told, 100)
}
