package valid

import (
	"slices"

	"lych/api"
)

// gatewayRules tells what is asked of c itself.
func gatewayRules(c api.Config) []rule {
	return []rule{
		unless(api.ErrGateway, func() bool { return c.Ip != 0 }),
		unless(api.ErrGateway, func() bool { return c.Drain <= api.MaxDrain }),
		unless(api.ErrGateway, func() bool { return len(c.Tenants) <= api.MaxTenants }),
	}
}

// placeRules tells what is asked of c's tenant i, of itself and where it stands.
func placeRules(c api.Config, i int) []rule {
	t, ahead := c.Tenants[i], c.Tenants[:i]
	sameVni := func(other api.Tenant) bool { return other.Vni == t.Vni }
	taken := func(ip uint32) bool {
		return ip == c.Ip || slices.ContainsFunc(ahead, func(other api.Tenant) bool { return Owns(other, ip) })
	}
	return []rule{
		func() api.Errno { return Tenant(t) },
		unless(api.ErrName, func() bool { return i == 0 || ahead[i-1].Name < t.Name }),
		when(api.ErrVni, func() bool { return slices.ContainsFunc(ahead, sameVni) }),
		when(api.ErrPool, func() bool { return ownsOne(t, taken) }),
	}
}
