package diff_test

import (
	"bytes"
	"fmt"
	"math/rand/v2"
	"reflect"
	"slices"
	"strings"
	"testing"

	"lych/api"
	"lych/diff"
)

// The models here keep tenants in lists that are in order at each step, and hold them to each other by reflect: no map, and not cfg.Same.

// place tells where the name stands in a list that is in order, or where it would, and whether it is there.
func place(list []api.Tenant, name string) (int, bool) {
	return slices.BinarySearchFunc(list, name, func(t api.Tenant, name string) int {
		return bytes.Compare([]byte(t.Name), []byte(name))
	})
}

// modelFind tells what Find must: from the last one on, so that the first one is told last.
func modelFind(l []api.Tenant, name string) (found api.Tenant, ok bool) {
	for _, t := range slices.Backward(l) {
		if t.Name == name {
			found, ok = t, true
		}
	}
	return found, ok
}

// modelPut tells a list in order with t in its name's place.
func modelPut(list []api.Tenant, t api.Tenant) []api.Tenant {
	at, there := place(list, t.Name)
	if there {
		list[at] = t
		return list
	}
	return slices.Insert(list, at, t)
}

// modelApply tells what Apply must.
func modelApply(l []api.Tenant, c []api.Change) []api.Tenant {
	var list []api.Tenant
	for _, t := range slices.Backward(l) {
		list = modelPut(list, t)
	}
	for _, change := range c {
		if change.Put {
			list = modelPut(list, change.T)
		} else if at, there := place(list, change.Name); there {
			list = slices.Delete(list, at, at+1)
		}
	}
	return list
}

// modelDiff tells what Diff must: two lists in order are gone through side by side.
func modelDiff(a, b []api.Tenant) []api.Change {
	was, is := modelApply(a, nil), modelApply(b, nil)
	var out []api.Change
	for len(was) > 0 || len(is) > 0 {
		switch {
		case len(is) == 0 || len(was) > 0 && was[0].Name < is[0].Name:
			out = append(out, api.Change{Name: was[0].Name})
			was = was[1:]
		case len(was) == 0 || is[0].Name < was[0].Name:
			out = append(out, put(is[0]))
			is = is[1:]
		default:
			if !equal(was[0], is[0]) {
				out = append(out, put(is[0]))
			}
			was, is = was[1:], is[1:]
		}
	}
	return out
}

// bare tells a copy of t, its empty lists nil.
func bare(t api.Tenant) api.Tenant {
	t.Pool = append([]uint32(nil), t.Pool...)
	t.Statics = append([]api.Pair(nil), t.Statics...)
	t.Twices = append([]api.Pair(nil), t.Twices...)
	return t
}

func bareTenants(list []api.Tenant) (out []api.Tenant) {
	for _, t := range list {
		out = append(out, bare(t))
	}
	return out
}

func bareChanges(list []api.Change) (out []api.Change) {
	for _, c := range list {
		c.T = bare(c.T)
		out = append(out, c)
	}
	return out
}

func equal(a, b api.Tenant) bool          { return reflect.DeepEqual(bare(a), bare(b)) }
func equalTenants(a, b []api.Tenant) bool { return reflect.DeepEqual(bareTenants(a), bareTenants(b)) }
func equalChanges(a, b []api.Change) bool { return reflect.DeepEqual(bareChanges(a), bareChanges(b)) }

// put and taken tell changes as Diff must write them.
func put(t api.Tenant) api.Change { return api.Change{Put: true, Name: t.Name, T: t} }
func taken(n string) api.Change   { return api.Change{Name: n} }

// named tells a tenant of that name; of other numbers it is another one.
func named(name string, n uint32) api.Tenant {
	return api.Tenant{Name: name, Vni: n, Pool: []uint32{n, n + 1}, Statics: []api.Pair{{A: n, B: n + 2}}, Twices: []api.Pair{{A: n + 3, B: n}}}
}

// full tells a tenant whose every field is something.
func full() api.Tenant {
	return api.Tenant{
		Name: "ab", Vni: 100, Key: [8]byte{1, 2, 3, 4, 5, 6, 7, 8}, Vtep: 0x0b000001, VtepMac: api.Mac{2, 0, 0, 0, 0, 4}, Host: api.Mac{4, 0, 0, 0, 0, 5},
		Pool: []uint32{0x05050501, 0x05050502}, Lo: 1024, Hi: 65535, Filter: 1,
		Statics: []api.Pair{{A: 0x0a000064, B: 0x05050508}, {A: 0x0a000065, B: 0x05050509}}, Twices: []api.Pair{{A: 0x0a0000c8, B: 0x08080808}},
		Sess: 256, Queue: 64, Rate: 100, Burst: 1000,
	}
}

// inOrder are names in order of their bytes: not in that of letters' sizes, of lengths, of runes of two halves or of wrong ones.
func inOrder() []string {
	long := strings.Repeat("n", 300)
	return []string{
		"", "\x00", "\x00\x00", "\x00a", "-", "0", "1", "10", "2", "A", "Z", "a", "a\x00", "a-", "a0", "aa", "aa-", "aab", "ab", "a\x7f", "a\x80", "b",
		long[:32], long[:255], long[:256], long, long + "\x00", long + "n", "z", "zz", "~", "\x7f", "\x7f\xff", "\x80", "\x80\x00", "\xbf",
		"\u00e9", "\u00e9a", "\u00ea", "\u07ff", "\u0800", "\u754c", "\ud7ff", "\ue000", "\ufffd", "\uffff", "\U00010000", "\U0010ffff", "\xf5", "\xff", "\xff\x00", "\xff\xff",
	}
}

// told tells anything as a text that isn't long.
func told(x any) string { return fmt.Sprintf("%.1000s", fmt.Sprintf("%+v", x)) }

// wantFind holds Find to an answer, and to nothing beside a false.
func wantFind(t *testing.T, l []api.Tenant, name string, want api.Tenant, found bool) {
	t.Helper()
	if got, ok := diff.Find(l, name); ok != found || !equal(got, want) {
		t.Fatalf("Find(%s, %.40q) = %s, %v; want %s, %v", told(l), name, told(got), ok, told(want), found)
	}
}

// wantApply holds Apply to an answer.
func wantApply(t *testing.T, l []api.Tenant, c []api.Change, want []api.Tenant) {
	t.Helper()
	if got := diff.Apply(l, c); !equalTenants(got, want) {
		t.Fatalf("Apply(%s, %s) = %s; want %s", told(l), told(c), told(got), told(want))
	}
}

// wantDiff holds Diff to an answer.
func wantDiff(t *testing.T, a, b []api.Tenant, want []api.Change) {
	t.Helper()
	if got := diff.Diff(a, b); !equalChanges(got, want) {
		t.Fatalf("Diff(%s, %s) = %s; want %s", told(a), told(b), told(got), told(want))
	}
}

// lists tells all lists of up to most of these.
func lists[E any](of []E, most int) [][]E {
	out := [][]E{nil}
	last := out
	for range most {
		var longer [][]E
		for _, list := range last {
			for _, e := range of {
				longer = append(longer, append(slices.Clone(list), e))
			}
		}
		out = append(out, longer...)
		last = longer
	}
	return out
}

func random(seed uint64) *rand.Rand { return rand.New(rand.NewPCG(seed, 15)) }

// shuffled tells a copy of a list in another order.
func shuffled[E any](r *rand.Rand, list []E) []E {
	list = slices.Clone(list)
	r.Shuffle(len(list), func(i, k int) { list[i], list[k] = list[k], list[i] })
	return list
}

// randomTenant tells one of few names, which is often the same as another one of its name, and often differs in one field alone.
func randomTenant(r *rand.Rand) api.Tenant {
	t := full()
	t.Name = []string{"", "a", "aa", "ab", "b", "\u00e9", "\xff", "z-1"}[r.IntN(8)]
	switch r.IntN(12) {
	case 0:
		t.Vni++
	case 1:
		t.Pool = t.Pool[:r.IntN(3)]
	case 2:
		t.Statics = t.Statics[:r.IntN(3)]
	case 3:
		t.Twices = append(t.Twices, api.Pair{A: r.Uint32N(2)})
	case 4:
		t.Filter += 256
	case 5:
		t.Key[r.IntN(8)]++
	case 6:
		t = api.Tenant{Name: t.Name}
	}
	return t
}

func randomTenants(r *rand.Rand) (list []api.Tenant) {
	for range r.IntN(9) {
		list = append(list, randomTenant(r))
	}
	return list
}

// randomChanges tells some whose other fields, which say nothing, are something now and then.
func randomChanges(r *rand.Rand) (list []api.Change) {
	for range r.IntN(9) {
		c := api.Change{Put: r.IntN(2) == 0, Name: randomTenant(r).Name}
		if c.Put || r.IntN(3) == 0 {
			c.T = randomTenant(r)
		}
		list = append(list, c)
	}
	return list
}
