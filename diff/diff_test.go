package diff_test

import (
	"math"
	"reflect"
	"strings"
	"testing"

	"lych/api"
	"lych/diff"
)

// The example: of none and one: one put.
func TestExample(t *testing.T) {
	got := diff.Diff(nil, []api.Tenant{full()})
	if len(got) != 1 || !got[0].Put || got[0].Name != "ab" || !equal(got[0].T, full()) {
		t.Errorf("%v", got)
	}
}

// P15.2: of none and none, none and one, one and none.
func TestDiffOfNone(t *testing.T) {
	for _, none := range [][]api.Tenant{nil, {}} {
		wantDiff(t, none, nil, nil)
		wantDiff(t, none, []api.Tenant{}, nil)
		for _, one := range []api.Tenant{full(), named("a", 1), named("", 1), {}, {Name: "\xff"}} {
			wantDiff(t, none, []api.Tenant{one}, []api.Change{put(one)})
			wantDiff(t, []api.Tenant{one}, none, []api.Change{taken(one.Name)})
			wantDiff(t, []api.Tenant{one}, []api.Tenant{one}, nil)
		}
	}
}

// P15.2: one that takes away has T zero, though a's is not; one that puts has the tenant's Name.
func TestDiffFields(t *testing.T) {
	got := diff.Diff([]api.Tenant{full(), named("b", 1)}, []api.Tenant{named("b", 2), named("c", 3)})
	want := []api.Change{{Name: "ab"}, {Put: true, Name: "b", T: named("b", 2)}, {Put: true, Name: "c", T: named("c", 3)}}
	if !reflect.DeepEqual(got, want) {
		t.Errorf("%v; want %v", got, want)
	}
}

// P15.2: changes are in order of names' bytes, put ones and those that take away together.
func TestDiffInOrder(t *testing.T) {
	names := inOrder()
	r := random(5)
	for range 300 {
		var a, b []api.Tenant
		var want []api.Change
		for i, name := range names {
			x, y := named(name, uint32(i)), named(name, uint32(i+1))
			switch r.IntN(5) {
			case 0:
				a, want = append(a, x), append(want, taken(name))
			case 1:
				b, want = append(b, x), append(want, put(x))
			case 2:
				a, b, want = append(a, x), append(b, y), append(want, put(y))
			case 3:
				a, b = append(a, x), append(b, x)
			}
		}
		wantDiff(t, shuffled(r, a), shuffled(r, b), want)
	}
	for i, behind := range names {
		for _, ahead := range names[:i] {
			x, y := named(ahead, 1), named(behind, 2)
			wantDiff(t, nil, []api.Tenant{y, x}, []api.Change{put(x), put(y)})
			wantDiff(t, []api.Tenant{y, x}, nil, []api.Change{taken(ahead), taken(behind)})
			wantDiff(t, []api.Tenant{y}, []api.Tenant{x}, []api.Change{put(x), taken(behind)})
			wantDiff(t, []api.Tenant{x}, []api.Tenant{y}, []api.Change{taken(ahead), put(y)})
		}
	}
}

// P15.2: of the same in another order nothing is changed.
func TestDiffOfAnotherOrder(t *testing.T) {
	var list []api.Tenant
	for i, name := range inOrder() {
		list = append(list, named(name, uint32(i)))
	}
	r := random(6)
	for range 100 {
		wantDiff(t, shuffled(r, list), shuffled(r, list), nil)
		wantDiff(t, list, shuffled(r, bareTenants(list)), nil)
	}
}

// P15.2: of tenants that differ in one field alone, each field, the other one is put.
func TestDiffOfOneField(t *testing.T) {
	changes := map[string]func(*api.Tenant){
		"Vni":     func(x *api.Tenant) { x.Vni++ },
		"Key":     func(x *api.Tenant) { x.Key[7]++ },
		"Vtep":    func(x *api.Tenant) { x.Vtep++ },
		"VtepMac": func(x *api.Tenant) { x.VtepMac[5]++ },
		"Host":    func(x *api.Tenant) { x.Host[5]++ },
		"Pool":    func(x *api.Tenant) { x.Pool[1]++ },
		"Lo":      func(x *api.Tenant) { x.Lo++ },
		"Hi":      func(x *api.Tenant) { x.Hi-- },
		"Filter":  func(x *api.Tenant) { x.Filter++ },
		"Statics": func(x *api.Tenant) { x.Statics[1].B++ },
		"Twices":  func(x *api.Tenant) { x.Twices[0].A++ },
		"Sess":    func(x *api.Tenant) { x.Sess-- },
		"Queue":   func(x *api.Tenant) { x.Queue-- },
		"Rate":    func(x *api.Tenant) { x.Rate++ },
		"Burst":   func(x *api.Tenant) { x.Burst++ },
	}
	kind := reflect.TypeFor[api.Tenant]()
	for i := range kind.NumField() {
		field := kind.Field(i).Name
		change := changes[field]
		if field == "Name" {
			// Another name is another tenant.
			change = func(x *api.Tenant) { x.Name = "b" }
		}
		was, is := full(), bare(full())
		change(&is)
		if equal(was, is) {
			t.Fatalf("%s isn't changed", field)
		}
		want := []api.Change{put(is)}
		if field == "Name" {
			want = []api.Change{taken("ab"), put(is)}
		}
		wantDiff(t, []api.Tenant{was}, []api.Tenant{is}, want)
		wantDiff(t, []api.Tenant{named("z", 1), was}, []api.Tenant{is, named("z", 1)}, want)
	}
}

// P15.2: lists of other lengths and orders make another tenant; nil and empty ones don't; nor does spare room.
func TestDiffOfLists(t *testing.T) {
	for _, change := range []func(*api.Tenant){
		func(x *api.Tenant) { x.Pool = x.Pool[:1] },
		func(x *api.Tenant) { x.Pool = append(x.Pool, 0) },
		func(x *api.Tenant) { x.Pool[0], x.Pool[1] = x.Pool[1], x.Pool[0] },
		func(x *api.Tenant) { x.Pool = nil },
		func(x *api.Tenant) { x.Statics = x.Statics[:1] },
		func(x *api.Tenant) { x.Statics = append(x.Statics, api.Pair{}) },
		func(x *api.Tenant) { x.Statics[0], x.Statics[1] = x.Statics[1], x.Statics[0] },
		func(x *api.Tenant) { x.Twices = nil },
		func(x *api.Tenant) { x.Twices = append(x.Twices, x.Twices...) },
		func(x *api.Tenant) { x.Statics, x.Twices = x.Twices, x.Statics },
	} {
		x := bare(full())
		change(&x)
		wantDiff(t, []api.Tenant{full()}, []api.Tenant{x}, []api.Change{put(x)})
		wantDiff(t, []api.Tenant{x}, []api.Tenant{full()}, []api.Change{put(full())})
	}
	empty := api.Tenant{Name: "a", Pool: []uint32{}, Statics: []api.Pair{}, Twices: make([]api.Pair, 3)[:0]}
	wantDiff(t, []api.Tenant{empty}, []api.Tenant{{Name: "a"}}, nil)
	wantDiff(t, []api.Tenant{{Name: "a"}}, []api.Tenant{empty}, nil)
}

// P15.2: two that cfg would write as the same bytes, but that aren't the same, are changed.
func TestDiffBeyondBytes(t *testing.T) {
	for _, n := range []int{256, 65536, 1 << 32, math.MinInt} {
		for _, x := range []api.Tenant{{Filter: n}, {Sess: n}, {Queue: n}} {
			wantDiff(t, []api.Tenant{{}}, []api.Tenant{x}, []api.Change{put(x)})
		}
	}
	was, is := api.Tenant{Pool: make([]uint32, 300)}, api.Tenant{Pool: make([]uint32, 300)}
	is.Pool[299] = 1
	wantDiff(t, []api.Tenant{was}, []api.Tenant{is}, []api.Change{put(is)})
	long := strings.Repeat("n", 255)
	wantDiff(t, []api.Tenant{{Name: long + "a"}}, []api.Tenant{{Name: long + "b"}}, []api.Change{taken(long + "a"), put(api.Tenant{Name: long + "b"})})
}

// P15.2: of a name that stands twice the first one counts, on either side, and there is one change of it.
func TestDiffOfNamesTwice(t *testing.T) {
	one, two, three, other := named("a", 1), named("a", 2), named("a", 3), named("b", 4)
	for _, row := range []struct {
		a, b []api.Tenant
		want []api.Change
	}{
		{[]api.Tenant{one, two}, []api.Tenant{one}, nil},
		{[]api.Tenant{one}, []api.Tenant{one, two}, nil},
		{[]api.Tenant{one, two}, []api.Tenant{one, three}, nil},
		{[]api.Tenant{one, two, three}, []api.Tenant{one, three, two}, nil},
		{[]api.Tenant{one, two}, []api.Tenant{two}, []api.Change{put(two)}},
		{[]api.Tenant{two}, []api.Tenant{one, two}, []api.Change{put(one)}},
		{[]api.Tenant{one, two}, []api.Tenant{two, one}, []api.Change{put(two)}},
		{[]api.Tenant{one, two}, nil, []api.Change{taken("a")}},
		{[]api.Tenant{one, one, one, other}, []api.Tenant{other}, []api.Change{taken("a")}},
		{nil, []api.Tenant{one, two}, []api.Change{put(one)}},
		{nil, []api.Tenant{three, one, two, other, three}, []api.Change{put(three), put(other)}},
		{[]api.Tenant{other, two, one}, []api.Tenant{one, other, two}, []api.Change{put(one)}},
	} {
		wantDiff(t, row.a, row.b, row.want)
	}
}

// P15.2: names of other letters, or that are each other's beginning, are other names.
func TestDiffOfNamesAlike(t *testing.T) {
	names := []string{"", "AB", "a", "ab", "ab\x00", "abc"}
	for i, x := range names {
		for k, y := range names {
			was, is := full(), full()
			was.Name, is.Name = x, y
			switch {
			case i < k:
				wantDiff(t, []api.Tenant{was}, []api.Tenant{is}, []api.Change{taken(x), put(is)})
			case i > k:
				wantDiff(t, []api.Tenant{was}, []api.Tenant{is}, []api.Change{put(is), taken(x)})
			default:
				wantDiff(t, []api.Tenant{was}, []api.Tenant{is}, nil)
			}
		}
	}
}

// P15.2: of any lists, against the model.
func TestDiffAny(t *testing.T) {
	r := random(7)
	for range 20000 {
		a, b := randomTenants(r), randomTenants(r)
		wantDiff(t, a, b, modelDiff(a, b))
	}
}
