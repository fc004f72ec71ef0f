package diff_test

import (
	"testing"

	"lych/api"
	"lych/diff"
)

// P15.1: no tenants and no changes; no changes of some.
func TestApplyNothing(t *testing.T) {
	for _, none := range [][]api.Tenant{nil, {}} {
		for _, changes := range [][]api.Change{nil, {}} {
			wantApply(t, none, changes, nil)
			wantApply(t, []api.Tenant{full()}, changes, []api.Tenant{full()})
			wantApply(t, []api.Tenant{{}}, changes, []api.Tenant{{}})
			wantApply(t, []api.Tenant{named("a", 1), full(), named("b", 2)}, changes, []api.Tenant{named("a", 1), full(), named("b", 2)})
		}
		wantApply(t, none, []api.Change{put(full())}, []api.Tenant{full()})
		wantApply(t, none, []api.Change{taken("a"), taken("")}, nil)
		wantApply(t, none, []api.Change{put(named("b", 1)), put(named("a", 2))}, []api.Tenant{named("a", 2), named("b", 1)})
	}
}

// P15.1: all is in order of names' bytes, whether it was handed in, put or both, in whatever order.
func TestApplyInOrder(t *testing.T) {
	var want []api.Tenant
	var changes []api.Change
	for i, name := range inOrder() {
		want = append(want, named(name, uint32(i)))
		changes = append(changes, put(want[i]))
	}
	r := random(3)
	for range 300 {
		wantApply(t, shuffled(r, want), nil, want)
		wantApply(t, nil, shuffled(r, changes), want)
		wantApply(t, shuffled(r, want)[:r.IntN(len(want))], shuffled(r, changes), want)
	}
	for i, name := range inOrder() {
		wantApply(t, shuffled(r, want), []api.Change{taken(name)}, append(append([]api.Tenant(nil), want[:i]...), want[i+1:]...))
	}
}

// P15.1: each two names are in order of their bytes.
func TestApplyTwoInOrder(t *testing.T) {
	names := inOrder()
	for i, behind := range names {
		for _, ahead := range names[:i] {
			a, b := named(ahead, 1), named(behind, 2)
			want := []api.Tenant{a, b}
			wantApply(t, []api.Tenant{a, b}, nil, want)
			wantApply(t, []api.Tenant{b, a}, nil, want)
			wantApply(t, []api.Tenant{b}, []api.Change{put(a)}, want)
			wantApply(t, []api.Tenant{a}, []api.Change{put(b)}, want)
		}
	}
}

// P15.1: of each name the first one counts, of two and of three.
func TestApplyTheFirst(t *testing.T) {
	a1, a2, a3, b1, b2 := named("a", 1), named("a", 2), named("a", 3), named("b", 1), named("b", 2)
	for _, row := range []struct{ list, want []api.Tenant }{
		{[]api.Tenant{a1, a2}, []api.Tenant{a1}},
		{[]api.Tenant{a2, a1}, []api.Tenant{a2}},
		{[]api.Tenant{a1, a1}, []api.Tenant{a1}},
		{[]api.Tenant{a1, a2, a3}, []api.Tenant{a1}},
		{[]api.Tenant{a3, a2, a1}, []api.Tenant{a3}},
		{[]api.Tenant{a2, a1, a2}, []api.Tenant{a2}},
		{[]api.Tenant{b2, a3, b1, a1, a2}, []api.Tenant{a3, b2}},
		{[]api.Tenant{a1, b1, b2, a2}, []api.Tenant{a1, b1}},
		{[]api.Tenant{b1, a1, a2, b2}, []api.Tenant{a1, b1}},
	} {
		wantApply(t, row.list, nil, row.want)
		wantApply(t, row.list, []api.Change{taken("c"), taken("")}, row.want)
	}
}

// P15.1: a put one stands for all that was of its name, or comes in besides.
func TestApplyPut(t *testing.T) {
	a, b, c, other := named("a", 1), named("b", 2), named("c", 3), named("b", 9)
	for _, row := range []struct {
		list []api.Tenant
		put  api.Tenant
		want []api.Tenant
	}{
		{[]api.Tenant{b, c}, a, []api.Tenant{a, b, c}},
		{[]api.Tenant{a, c}, b, []api.Tenant{a, b, c}},
		{[]api.Tenant{a, b}, c, []api.Tenant{a, b, c}},
		{[]api.Tenant{a, b, c}, other, []api.Tenant{a, other, c}},
		{[]api.Tenant{a, b, c}, b, []api.Tenant{a, b, c}},
		{[]api.Tenant{b, a, b, c}, other, []api.Tenant{a, other, c}},
		{[]api.Tenant{b, other, b}, other, []api.Tenant{other}},
		{[]api.Tenant{other, b}, b, []api.Tenant{b}},
		{[]api.Tenant{full(), b}, api.Tenant{Name: "ab"}, []api.Tenant{{Name: "ab"}, b}},
		{[]api.Tenant{{Name: "ab"}, b}, full(), []api.Tenant{full(), b}},
		{[]api.Tenant{a}, api.Tenant{}, []api.Tenant{{}, a}},
	} {
		wantApply(t, row.list, []api.Change{put(row.put)}, row.want)
	}
}

// P15.1: of a put one the Name says nothing: T's does.
func TestApplyPutOfAnotherName(t *testing.T) {
	a, b, other := named("a", 1), named("b", 2), named("b", 9)
	for _, name := range []string{"", "a", "b", "c", "B", "b\x00", "\xff"} {
		wantApply(t, []api.Tenant{a, b}, []api.Change{{Put: true, Name: name, T: other}}, []api.Tenant{a, other})
		wantApply(t, []api.Tenant{a}, []api.Change{{Put: true, Name: name, T: other}}, []api.Tenant{a, other})
		wantApply(t, nil, []api.Change{{Put: true, Name: name, T: other}}, []api.Tenant{other})
		wantApply(t, []api.Tenant{a, b}, []api.Change{{Put: true, Name: name}}, []api.Tenant{{}, a, b})
	}
}

// P15.1: one that is taken away is gone, all that was of its name; of a name that isn't there nothing happens.
func TestApplyTaken(t *testing.T) {
	a, b, c, other, empty := named("a", 1), named("b", 2), named("c", 3), named("b", 9), named("", 4)
	for _, row := range []struct {
		list []api.Tenant
		name string
		want []api.Tenant
	}{
		{[]api.Tenant{a, b, c}, "a", []api.Tenant{b, c}},
		{[]api.Tenant{a, b, c}, "b", []api.Tenant{a, c}},
		{[]api.Tenant{a, b, c}, "c", []api.Tenant{a, b}},
		{[]api.Tenant{b}, "b", nil},
		{[]api.Tenant{b, a, other}, "b", []api.Tenant{a}},
		{[]api.Tenant{b, other, b}, "b", nil},
		{[]api.Tenant{c, a}, "b", []api.Tenant{a, c}},
		{[]api.Tenant{c, a}, "", []api.Tenant{a, c}},
		{[]api.Tenant{c, empty, a, empty}, "", []api.Tenant{a, c}},
		{[]api.Tenant{named("ab", 1), b, named("abc", 2)}, "ab", []api.Tenant{named("abc", 2), b}},
		{[]api.Tenant{named("ab", 1)}, "a", []api.Tenant{named("ab", 1)}},
		{[]api.Tenant{named("ab", 1)}, "abc", []api.Tenant{named("ab", 1)}},
		{[]api.Tenant{named("ab", 1)}, "AB", []api.Tenant{named("ab", 1)}},
	} {
		wantApply(t, row.list, []api.Change{taken(row.name)}, row.want)
		wantApply(t, row.list, []api.Change{taken(row.name), taken(row.name)}, row.want)
	}
}

// P15.1: of one that is taken away the T says nothing, its name neither.
func TestApplyTakenWithATenant(t *testing.T) {
	a, b := named("a", 1), named("b", 2)
	wantApply(t, []api.Tenant{a, b}, []api.Change{{Name: "a", T: b}}, []api.Tenant{b})
	wantApply(t, []api.Tenant{a, b}, []api.Change{{Name: "c", T: b}}, []api.Tenant{a, b})
	wantApply(t, []api.Tenant{a, b}, []api.Change{{T: b}}, []api.Tenant{a, b})
	wantApply(t, []api.Tenant{a}, []api.Change{{Name: "a", T: named("a", 9)}}, nil)
}

// P15.1: changes of one name count in their order.
func TestApplyChangesInOrder(t *testing.T) {
	was, one, two := named("a", 1), named("a", 2), named("a", 3)
	away := taken("a")
	for _, row := range []struct {
		changes []api.Change
		want    []api.Tenant
	}{
		{[]api.Change{put(one), put(two)}, []api.Tenant{two}},
		{[]api.Change{put(two), put(one)}, []api.Tenant{one}},
		{[]api.Change{put(one), away}, nil},
		{[]api.Change{away, put(one)}, []api.Tenant{one}},
		{[]api.Change{put(one), away, put(two)}, []api.Tenant{two}},
		{[]api.Change{away, put(one), away}, nil},
		{[]api.Change{put(one), put(two), away}, nil},
		{[]api.Change{away, put(two), put(one)}, []api.Tenant{one}},
		{[]api.Change{away, away, put(one)}, []api.Tenant{one}},
		{[]api.Change{put(one), away, away}, nil},
		{[]api.Change{put(one), {Put: true, Name: "a", T: named("b", 4)}, taken("b")}, []api.Tenant{one}},
	} {
		for _, list := range [][]api.Tenant{nil, {was}, {was, two}, {two, was, one}} {
			wantApply(t, list, row.changes, row.want)
			b := named("b", 7)
			if row.changes[1].T.Name != "b" {
				wantApply(t, append([]api.Tenant{b}, list...), row.changes, append(append([]api.Tenant(nil), row.want...), b))
			}
		}
	}
}

// P15.1: all short lists and all short rows of changes of two names, against the model.
func TestApplyAllShort(t *testing.T) {
	a1, a2, b1, b2 := named("a", 1), named("a", 2), named("b", 1), named("b", 2)
	changes := lists([]api.Change{put(a1), put(b2), {Put: true, Name: "b", T: a2}, taken("a"), taken("b")}, 3)
	for _, l := range lists([]api.Tenant{a1, a2, b1, b2}, 3) {
		for _, c := range changes {
			wantApply(t, l, c, modelApply(l, c))
		}
	}
}

// P15.1: of any lists and changes, against the model; and once applied, no change is a change.
func TestApplyAny(t *testing.T) {
	r := random(4)
	for range 20000 {
		l, c := randomTenants(r), randomChanges(r)
		want := modelApply(l, c)
		wantApply(t, l, c, want)
		wantApply(t, want, nil, want)
		half := r.IntN(len(c) + 1)
		wantApply(t, diff.Apply(l, c[:half]), c[half:], want)
	}
}
