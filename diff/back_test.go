package diff_test

import (
	"slices"
	"testing"

	"lych/api"
	"lych/diff"
)

// wantBack holds Diff and Apply to P15.3, and Diff to the fewest changes (P15.2).
func wantBack(t *testing.T, a, b []api.Tenant) {
	t.Helper()
	changes, want := diff.Diff(a, b), modelApply(b, nil)
	wantApply(t, a, changes, want)
	if n := unlikeNames(a, b); len(changes) != n {
		t.Fatalf("%d changes of %v, %v; want %d", len(changes), a, b, n)
	}
	for i := range changes {
		// One change is of one name: so none can be left out.
		left := slices.Delete(slices.Clone(changes), i, i+1)
		if equalTenants(diff.Apply(a, left), want) {
			t.Fatalf("%v, %v: %v is needless", a, b, changes[i])
		}
	}
	wantDiff(t, diff.Apply(a, changes), b, nil)
	wantDiff(t, b, want, nil)
	wantDiff(t, want, b, nil)
	wantDiff(t, a, a, nil)
}

// unlikeNames tells of how many names a and b have unlike tenants.
func unlikeNames(a, b []api.Tenant) int {
	var names []string
	for _, t := range slices.Concat(a, b) {
		if !slices.Contains(names, t.Name) {
			names = append(names, t.Name)
		}
	}
	n := 0
	for _, name := range names {
		was, had := modelFind(a, name)
		is, has := modelFind(b, name)
		if had != has || !equal(was, is) {
			n++
		}
	}
	return n
}

// P15.3: all pairs of short lists of two names.
func TestBackAllShort(t *testing.T) {
	all := lists([]api.Tenant{named("a", 1), named("a", 2), named("b", 1), named("b", 2)}, 3)
	for _, a := range all {
		for _, b := range all {
			wantBack(t, a, b)
		}
	}
}

// P15.3: any lists, of a name twice on either side, in any order.
func TestBackAny(t *testing.T) {
	r := random(8)
	for range 5000 {
		a, b := randomTenants(r), randomTenants(r)
		wantBack(t, a, b)
		wantBack(t, a, shuffled(r, a))
	}
}

// P15.3: the changes that Diff tells are of unlike names, so that their order says nothing.
func TestBackInAnyOrder(t *testing.T) {
	r := random(9)
	for range 5000 {
		a, b := randomTenants(r), randomTenants(r)
		wantApply(t, a, shuffled(r, diff.Diff(a, b)), modelApply(b, nil))
	}
}
