package diff_test

import (
	"fmt"
	"reflect"
	"slices"
	"sync"
	"testing"

	"lych/api"
	"lych/diff"
)

// roomy tells a list with room behind it that isn't blank, and a function that tells whether all of it is as it was.
func roomy[E any](list []E, filler E) ([]E, func() bool) {
	whole := append(append([]E(nil), list...), filler, filler, filler)
	before := slices.Clone(whole)
	return whole[:len(list)], func() bool { return reflect.DeepEqual(whole, before) }
}

// roomyTenant is roomy of a tenant's lists.
func roomyTenant(t api.Tenant) (api.Tenant, func() bool) {
	var was [3]func() bool
	t.Pool, was[0] = roomy(t.Pool, 0x5a5a5a5a)
	t.Statics, was[1] = roomy(t.Statics, api.Pair{A: 0x5a, B: 0xa5})
	t.Twices, was[2] = roomy(t.Twices, api.Pair{A: 0x5a, B: 0xa5})
	return t, func() bool { return was[0]() && was[1]() && was[2]() }
}

// roomyAll is roomy of a list, and of the tenant that of tells of each.
func roomyAll[E any](list []E, of func(*E) *api.Tenant, filler E) ([]E, func() bool) {
	var was []func() bool
	list = slices.Clone(list)
	for i := range list {
		t, same := roomyTenant(*of(&list[i]))
		*of(&list[i]) = t
		was = append(was, same)
	}
	list, same := roomy(list, filler)
	was = append(was, same)
	return list, func() bool {
		for _, same := range was {
			if !same() {
				return false
			}
		}
		return true
	}
}

func roomyTenants(list []api.Tenant) ([]api.Tenant, func() bool) {
	return roomyAll(list, func(t *api.Tenant) *api.Tenant { return t }, named("a", 0x5a))
}

func roomyChanges(list []api.Change) ([]api.Change, func() bool) {
	return roomyAll(list, func(c *api.Change) *api.Tenant { return &c.T }, put(named("a", 0x5a)))
}

// spoil writes over a tenant's lists and all their room.
func spoil(t api.Tenant) {
	for i := range t.Pool[:cap(t.Pool)] {
		t.Pool[:cap(t.Pool)][i] = 0xdddddddd
	}
	for _, list := range [][]api.Pair{t.Statics, t.Twices} {
		for i := range list[:cap(list)] {
			list[:cap(list)][i] = api.Pair{A: 0xdddddddd, B: 0xdddddddd}
		}
	}
}

func spoilTenants(list []api.Tenant) {
	for i, t := range list[:cap(list)] {
		spoil(t)
		list[:cap(list)][i] = api.Tenant{Name: "spoilt"}
	}
}

func spoilChanges(list []api.Change) {
	for i, c := range list[:cap(list)] {
		spoil(c.T)
		list[:cap(list)][i] = api.Change{Name: "spoilt"}
	}
}

// DOC.md, what holds everywhere, 3: Apply changes nothing that it is handed, nor the room behind it, and keeps nothing.
func TestApplyKeepsNothing(t *testing.T) {
	r := random(10)
	for range 5000 {
		l, c := randomTenants(r), randomChanges(r)
		want := bareTenants(modelApply(l, c))
		l, wasL := roomyTenants(l)
		c, wasC := roomyChanges(c)
		got := diff.Apply(l, c)
		if !wasL() || !wasC() {
			t.Fatal("changed by the call")
		}
		spoilTenants(l)
		spoilChanges(c)
		if !equalTenants(got, want) {
			t.Fatalf("the answer is changed by what was handed in: %v; want %v", got, want)
		}
	}
}

// DOC.md, what holds everywhere, 3: so with Diff.
func TestDiffKeepsNothing(t *testing.T) {
	r := random(11)
	for range 5000 {
		a, b := randomTenants(r), randomTenants(r)
		want := bareChanges(modelDiff(a, b))
		a, wasA := roomyTenants(a)
		b, wasB := roomyTenants(b)
		got := diff.Diff(a, b)
		if !wasA() || !wasB() {
			t.Fatal("changed by the call")
		}
		spoilTenants(a)
		spoilTenants(b)
		if !equalChanges(got, want) {
			t.Fatalf("the answer is changed by what was handed in: %v; want %v", got, want)
		}
	}
}

// DOC.md, what holds everywhere, 3: so with Find.
func TestFindKeepsNothing(t *testing.T) {
	r := random(12)
	for range 5000 {
		l, name := randomTenants(r), randomTenant(r).Name
		want, found := modelFind(l, name)
		want = bare(want)
		l, was := roomyTenants(l)
		got, ok := diff.Find(l, name)
		if !was() {
			t.Fatal("changed by the call")
		}
		spoilTenants(l)
		if ok != found || !equal(got, want) {
			t.Fatalf("the answer is changed by what was handed in: %v; want %v", got, want)
		}
	}
}

// DOC.md, what holds everywhere, 3: what is done to an answer changes nothing that was handed in.
func TestAnswersAreApart(t *testing.T) {
	l, wasL := roomyTenants([]api.Tenant{full(), named("a", 1), named("b", 2), named("b", 3)})
	c, wasC := roomyChanges([]api.Change{put(named("a", 5)), put(named("c", 6)), taken("b")})
	spoilTenants(diff.Apply(l, c))
	spoilTenants(diff.Apply(l, nil))
	spoilTenants(diff.Apply(nil, c))
	spoilChanges(diff.Diff(l, l[:1]))
	spoilChanges(diff.Diff(l[:1], l))
	spoilChanges(diff.Diff(l[2:3], l[3:]))
	for _, x := range l {
		found, _ := diff.Find(l, x.Name)
		spoil(found)
	}
	if !wasL() || !wasC() {
		t.Error("changed by an answer")
	}
}

// wantApart holds the lists of one answer to memory of their own: each is written over in its turn, and all others are as want says.
func wantApart(t *testing.T, answer func() []api.Tenant, want []api.Tenant) {
	t.Helper()
	for i := range want {
		for part := range 3 {
			list, left := answer(), bareTenants(want)
			one := api.Tenant{}
			switch part {
			case 0:
				one.Pool, list[i].Pool, left[i].Pool = list[i].Pool, nil, nil
			case 1:
				one.Statics, list[i].Statics, left[i].Statics = list[i].Statics, nil, nil
			case 2:
				one.Twices, list[i].Twices, left[i].Twices = list[i].Twices, nil, nil
			}
			spoil(one)
			if !equalTenants(list, left) {
				t.Fatalf("tenant %d, list %d: %v; want %v", i, part, list, left)
			}
		}
	}
}

// DOC.md, what holds everywhere, 3: no two lists of one answer share memory, though what was handed in did.
func TestListsShareNothing(t *testing.T) {
	pool, pairs := []uint32{1, 2, 3}, []api.Pair{{A: 1, B: 2}, {A: 3, B: 4}}
	sharing := func(name string) api.Tenant {
		return api.Tenant{Name: name, Pool: pool, Statics: pairs, Twices: pairs}
	}
	a, b, c := sharing("a"), sharing("b"), sharing("c")
	all := []api.Tenant{a, b, c}
	wantApart(t, func() []api.Tenant { return diff.Apply([]api.Tenant{c, b, a, b}, nil) }, all)
	wantApart(t, func() []api.Tenant { return diff.Apply(nil, []api.Change{put(b), put(a), put(c), put(a)}) }, all)
	wantApart(t, func() []api.Tenant { return diff.Apply([]api.Tenant{b}, []api.Change{put(a), put(c)}) }, all)
	wantApart(t, func() (list []api.Tenant) {
		for _, change := range diff.Diff([]api.Tenant{named("b", 1)}, []api.Tenant{c, b, a}) {
			list = append(list, change.T)
		}
		return list
	}, all)
	wantApart(t, func() []api.Tenant {
		found, _ := diff.Find([]api.Tenant{a, b}, "b")
		return []api.Tenant{found}
	}, []api.Tenant{b})
}

// DOC.md, what holds everywhere, 8: what is answered hangs on nothing that was asked ahead of it, nor on what is asked at the same time, nor on a map's order.
func TestSameAgain(t *testing.T) {
	shared := []api.Tenant{named("c", 1), named("a", 2), full(), named("a", 3), named("b", 4)}
	others := []api.Tenant{named("d", 1), named("a", 3), full()}
	want := modelDiff(shared, others)
	var all sync.WaitGroup
	for seed := range uint64(8) {
		all.Go(func() {
			r := random(100 + seed)
			for range 300 {
				l, c := randomTenants(r), randomChanges(r)
				if got := diff.Apply(l, c); !equalTenants(got, modelApply(l, c)) {
					t.Errorf("Apply(%v, %v) = %v", l, c, got)
				}
				if got := diff.Diff(shared, others); !equalChanges(got, want) {
					t.Errorf("Diff = %v", got)
				}
				if got, ok := diff.Find(shared, "a"); !ok || got.Vni != 2 {
					t.Errorf("Find = %v, %v", got, ok)
				}
			}
		})
	}
	all.Wait()
}

// DOC.md, what holds everywhere, 1 and 10: many tenants and many changes are told of, soon; no limit of api's counts here.
func TestGreatLists(t *testing.T) {
	const many = 1 << 16
	var list []api.Tenant
	var away, again []api.Change
	for i := range many {
		name := fmt.Sprintf("t%08d", i)
		list = append(list, api.Tenant{Name: name, Vni: uint32(i)})
		away = append(away, taken(name))
		again = append(again, put(list[i]))
	}
	back := slices.Clone(list)
	slices.Reverse(back)
	wantApply(t, slices.Concat(back, list), nil, list)
	wantApply(t, list, slices.Concat(away, again, away), nil)
	wantDiff(t, back, list, nil)
	wantDiff(t, back, nil, away)
	wantDiff(t, nil, back, again)
	wantFind(t, list, list[many-1].Name, list[many-1], true)
}

// FuzzDiff makes lists and changes of any bytes and holds all calls to their models.
func FuzzDiff(f *testing.F) {
	f.Add([]byte{}, []byte{}, []byte{})
	f.Add([]byte("a1b2a3"), []byte("b2a3a1"), []byte("+a1-b0+c2"))
	f.Add([]byte("\x001\xff2"), []byte("\xff1\x7f2\x801"), []byte("-\xff0+\x801"))
	f.Fuzz(func(t *testing.T, one, two, three []byte) {
		tenants := func(b []byte) (list []api.Tenant) {
			for row := range slices.Chunk(b, 2) {
				list = append(list, named(string(row[:1]), uint32(row[len(row)-1]%4)))
			}
			return list
		}
		a, b := tenants(one), tenants(two)
		var changes []api.Change
		for row := range slices.Chunk(three, 3) {
			last := row[len(row)-1]
			changes = append(changes, api.Change{Put: row[0]%2 == 1, Name: string(row[:1]), T: named(string(row[len(row)/2]), uint32(last%4))})
		}
		wantApply(t, a, changes, modelApply(a, changes))
		wantDiff(t, a, b, modelDiff(a, b))
		wantBack(t, a, b)
		for _, x := range slices.Concat(a, b) {
			want, found := modelFind(a, x.Name)
			wantFind(t, a, x.Name, want, found)
		}
	})
}
