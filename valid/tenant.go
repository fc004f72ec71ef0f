package valid

import (
	"slices"

	"lych/addr"
	"lych/api"
)

// maxVni is the greatest network: a tunnel tells it in three bytes.
const maxVni = 0xffffff

// tenantRules tells what is asked of t itself. Lists are held to their lengths ahead of anything else, so that none is gone through that has no bound.
func tenantRules(t api.Tenant) []rule {
	inPool := func(ip uint32) bool { return slices.Contains(t.Pool, ip) }
	owned := func(ip uint32) bool { return Owns(t, ip) }
	return []rule{
		unless(api.ErrName, func() bool { return addr.Name(t.Name) }),
		unless(api.ErrVni, func() bool { return within(t.Vni, 1, maxVni) }),
		unless(api.ErrPool, func() bool { return len(t.Pool) <= api.MaxPool }),
		unless(api.ErrPool, func() bool { return unlike(t.Pool) }),
		unless(api.ErrPorts, func() bool { return within(t.Lo, 1, t.Hi) }),
		unless(api.ErrRule, func() bool { return within(t.Filter, api.FilterAny, api.FilterPort) }),
		unless(api.ErrRule, func() bool { return len(t.Statics) <= api.MaxRules }),
		unless(api.ErrRule, func() bool { return len(t.Twices) <= api.MaxRules }),
		unless(api.ErrRule, func() bool { return unlike(firsts(t.Statics)) && unlike(seconds(t.Statics)) }),
		unless(api.ErrRule, func() bool { return unlike(firsts(t.Twices)) && unlike(seconds(t.Twices)) }),
		when(api.ErrRule, func() bool { return slices.ContainsFunc(seconds(t.Statics), inPool) }),
		when(api.ErrRule, func() bool { return slices.ContainsFunc(firsts(t.Twices), owned) }),
		unless(api.ErrQuota, func() bool { return within(t.Sess, 1, api.MaxSess) }),
		unless(api.ErrQuota, func() bool { return within(t.Queue, 1, api.MaxQueue) }),
		unless(api.ErrQuota, func() bool { return t.Rate <= api.MaxRate }),
		unless(api.ErrQuota, func() bool { return within(t.Burst, 1, api.MaxRate) }),
		unless(api.ErrGateway, func() bool { return t.Vtep != 0 }),
	}
}

// within tells whether n is neither below least nor above most.
func within[N int | uint16 | uint32](n, least, most N) bool {
	return least <= n && n <= most
}

// unlike tells whether these are addresses, none of them 0, none twice.
func unlike(list []uint32) bool {
	for i, ip := range list {
		if ip == 0 || slices.Contains(list[:i], ip) {
			return false
		}
	}
	return true
}

// firsts tells the pairs' first addresses.
func firsts(pairs []api.Pair) []uint32 {
	return each(pairs, func(p api.Pair) uint32 { return p.A })
}

// seconds tells the pairs' second addresses.
func seconds(pairs []api.Pair) []uint32 {
	return each(pairs, func(p api.Pair) uint32 { return p.B })
}

// each tells what of tells of each of these pairs.
func each(pairs []api.Pair, of func(api.Pair) uint32) []uint32 {
	out := make([]uint32, len(pairs))
	for i, p := range pairs {
		out[i] = of(p)
	}
	return out
}
