package diff_test

import (
	"strings"
	"testing"

	"lych/api"
)

// P15.1: in no list anything is found.
func TestFindInNone(t *testing.T) {
	for _, name := range []string{"", "a", "\xff"} {
		wantFind(t, nil, name, api.Tenant{}, false)
		wantFind(t, []api.Tenant{}, name, api.Tenant{}, false)
		wantFind(t, []api.Tenant{full(), named(name, 1)}[:1], name, api.Tenant{}, false)
	}
}

// P15.1: each one is found by its name, wherever it stands, in lists that are in no order; no other name is.
func TestFindEach(t *testing.T) {
	names := inOrder()
	r := random(1)
	for range 50 {
		names = shuffled(r, names)
		var list []api.Tenant
		for i, name := range names {
			list = append(list, named(name, uint32(i)))
		}
		for i, name := range names {
			wantFind(t, list, name, list[i], true)
			wantFind(t, list[:i], name, api.Tenant{}, false)
			wantFind(t, list[i+1:], name, api.Tenant{}, false)
			wantFind(t, list[:i+1], name, list[i], true)
			wantFind(t, list[i:], name, list[i], true)
		}
	}
}

// P15.1: all fields of what is found are told.
func TestFindAllFields(t *testing.T) {
	wantFind(t, []api.Tenant{named("a", 1), full(), named("b", 2)}, "ab", full(), true)
	wantFind(t, []api.Tenant{{Name: "a"}}, "a", api.Tenant{Name: "a"}, true)
}

// P15.1: of a name that stands twice, or more often, the first one is found.
func TestFindTheFirst(t *testing.T) {
	a, b, c, other := named("a", 1), named("a", 2), named("a", 3), named("b", 4)
	for _, list := range [][]api.Tenant{{a, b}, {a, a, b}, {a, b, a}, {other, a, b}, {a, other, b}, {a, b, c}, {a, c, b, other}, {other, other, a, other, c, b}} {
		wantFind(t, list, "a", a, true)
	}
	wantFind(t, []api.Tenant{b, a}, "a", b, true)
	wantFind(t, []api.Tenant{c, b, a}, "a", c, true)
}

// P15.1: a name is found whole: not its beginning, its end, or in other letters.
func TestFindWholeNames(t *testing.T) {
	ab, none := []api.Tenant{named("ab", 1)}, api.Tenant{}
	for _, name := range []string{"", "a", "b", "abc", "ab\x00", "\x00ab", "AB", "aB", "ab ", "abab", "ba"} {
		wantFind(t, ab, name, none, false)
	}
	both := []api.Tenant{named("abc", 1), named("ab", 2), named("a", 3)}
	for i, name := range []string{"abc", "ab", "a"} {
		wantFind(t, both, name, both[i], true)
	}
	long := strings.Repeat("n", 300)
	wantFind(t, []api.Tenant{named(long, 1)}, long[:255], none, false)
	wantFind(t, []api.Tenant{named(long, 1)}, long[:299]+"m", none, false)
	wantFind(t, []api.Tenant{named(long, 1)}, long, named(long, 1), true)
	wantFind(t, []api.Tenant{named("\xff", 1), named("\ufffd", 2)}, "\xfe", none, false)
}

// P15.1: the empty name is one as any other.
func TestFindTheEmptyName(t *testing.T) {
	wantFind(t, []api.Tenant{named("a", 1), named("", 2), named("b", 3)}, "", named("", 2), true)
	wantFind(t, []api.Tenant{named("a", 1), named("b", 3)}, "", api.Tenant{}, false)
	wantFind(t, []api.Tenant{{}}, "", api.Tenant{}, true)
}

// P15.1: of any lists, against the model.
func TestFindAny(t *testing.T) {
	r := random(2)
	for range 20000 {
		list, name := randomTenants(r), randomTenant(r).Name
		want, found := modelFind(list, name)
		wantFind(t, list, name, want, found)
	}
}
