package cfg_test

import (
	"math"
	"reflect"
	"slices"
	"strings"
	"testing"

	"lych/api"
	"lych/cfg"
)

// wantSame holds Same to an answer, from either side.
func wantSame(t *testing.T, what string, a, b api.Tenant, want bool) {
	t.Helper()
	if cfg.Same(a, b) != want || cfg.Same(b, a) != want {
		t.Fatalf("%s: %v, %v: want %v", what, a, b, want)
	}
}

// others tells values that are unlike v, of its type: numbers with one bit turned, arrays and lists with one element so; texts and lists of other lengths and orders.
func others(v reflect.Value) []reflect.Value {
	var out []reflect.Value
	add := func(change func(reflect.Value)) {
		x := reflect.New(v.Type()).Elem()
		x.Set(v)
		if v.Kind() == reflect.Slice {
			x.Set(reflect.AppendSlice(reflect.MakeSlice(v.Type(), 0, 0), v))
		}
		change(x)
		out = append(out, x)
	}
	switch v.Kind() {
	case reflect.String:
		for _, s := range []string{"", v.String() + "\x00", v.String() + v.String(), v.String()[1:], strings.ToUpper(v.String())} {
			add(func(x reflect.Value) { x.SetString(s) })
		}
	case reflect.Int:
		for bit := range v.Type().Bits() {
			add(func(x reflect.Value) { x.SetInt(v.Int() ^ 1<<bit) })
		}
	case reflect.Uint8, reflect.Uint16, reflect.Uint32:
		for bit := range v.Type().Bits() {
			add(func(x reflect.Value) { x.SetUint(v.Uint() ^ 1<<bit) })
		}
	case reflect.Struct:
		for i := range v.NumField() {
			for _, y := range others(v.Field(i)) {
				add(func(x reflect.Value) { x.Field(i).Set(y) })
			}
		}
	case reflect.Slice:
		add(func(x reflect.Value) { x.SetZero() })
		add(func(x reflect.Value) { x.Set(reflect.Append(x, reflect.Zero(v.Type().Elem()))) })
		add(func(x reflect.Value) { x.Set(reflect.Append(x, x.Index(0))) })
		add(func(x reflect.Value) { x.SetLen(x.Len() - 1) })
		add(func(x reflect.Value) { x.Set(x.Slice(1, x.Len())) })
		for i := 1; i < v.Len(); i++ {
			add(func(x reflect.Value) { reflect.Swapper(x.Interface())(0, i) })
		}
		fallthrough
	case reflect.Array:
		for i := range v.Len() {
			for _, y := range others(v.Index(i)) {
				add(func(x reflect.Value) { x.Index(i).Set(y) })
			}
		}
	default:
		panic(v.Kind())
	}
	return out
}

// P12.3: two that differ in one field alone, each field, each bit of it, aren't the same.
func TestSameFields(t *testing.T) {
	base := full()
	base.Twices = append(base.Twices, api.Pair{A: 1, B: 2}, api.Pair{A: 2, B: 1})
	for i := range reflect.TypeFor[api.Tenant]().NumField() {
		for _, other := range others(reflect.ValueOf(base).Field(i)) {
			x := base
			reflect.ValueOf(&x).Elem().Field(i).Set(other)
			wantSame(t, "itself", x, bareTenant(x), true)
			wantSame(t, reflect.TypeFor[api.Tenant]().Field(i).Name, base, x, false)
		}
	}
	wantSame(t, "a copy", base, bareTenant(base), true)
	wantSame(t, "none", base, api.Tenant{}, false)
	wantSame(t, "zeros", api.Tenant{}, api.Tenant{}, true)
}

// P12.3: what Tenant cuts off counts all the same.
func TestSameBeyondBytes(t *testing.T) {
	long := func(n int) api.Tenant {
		return api.Tenant{Name: strings.Repeat("n", n), Pool: make([]uint32, n), Statics: make([]api.Pair, n), Twices: make([]api.Pair, n)}
	}
	for _, n := range []int{255, 256, 257, 300, 511, 600} {
		wantSame(t, "as long", long(n), long(n), true)
		for _, more := range []int{1, 256} {
			for i, x := range []api.Tenant{{Name: long(n + more).Name}, {Pool: long(n + more).Pool}, {Statics: long(n + more).Statics}, {Twices: long(n + more).Twices}} {
				y := []api.Tenant{{Name: long(n).Name}, {Pool: long(n).Pool}, {Statics: long(n).Statics}, {Twices: long(n).Twices}}[i]
				wantSame(t, "longer", x, y, false)
			}
		}
		for i, change := range []func(*api.Tenant){
			func(x *api.Tenant) { x.Name = x.Name[:n-1] + "m" },
			func(x *api.Tenant) { x.Pool[n-1]++ },
			func(x *api.Tenant) { x.Statics[n-1].A++ },
			func(x *api.Tenant) { x.Statics[n-1].B++ },
			func(x *api.Tenant) { x.Twices[n-1].A++ },
			func(x *api.Tenant) { x.Twices[n-1].B++ },
		} {
			x := long(n)
			change(&x)
			wantSame(t, "the last of "+string(rune('0'+i)), x, long(n), false)
		}
	}
	for _, d := range []int{256, 65536, 1 << 32, math.MinInt, -256, -65536} {
		wantSame(t, "Filter", api.Tenant{Filter: 1}, api.Tenant{Filter: 1 + d}, false)
		wantSame(t, "Sess", api.Tenant{Sess: 1}, api.Tenant{Sess: 1 + d}, false)
		wantSame(t, "Queue", api.Tenant{Queue: 1}, api.Tenant{Queue: 1 + d}, false)
	}
}

// P12.3: values that are moved from one field to another of its kind.
func TestSameMoved(t *testing.T) {
	pairs := []api.Pair{{A: 1, B: 2}}
	mac := api.Mac{1, 2, 3, 4, 5, 6}
	for i, row := range [][2]api.Tenant{
		{{Statics: pairs}, {Twices: pairs}},
		{{Statics: pairs}, {Statics: []api.Pair{{A: 2, B: 1}}}},
		{{Pool: []uint32{1, 2}}, {Statics: pairs}},
		{{VtepMac: mac}, {Host: mac}},
		{{Lo: 1}, {Hi: 1}},
		{{Sess: 1}, {Queue: 1}},
		{{Rate: 1}, {Burst: 1}},
		{{Vni: 1}, {Vtep: 1}},
	} {
		wantSame(t, "row "+string(rune('0'+i)), row[0], row[1], false)
	}
}

// P12.3: orders of a list: one alone is the same.
func TestSameOrder(t *testing.T) {
	orders := [][]uint32{{1, 2, 3}, {1, 3, 2}, {2, 1, 3}, {2, 3, 1}, {3, 1, 2}, {3, 2, 1}, {1, 1, 2}, {1, 2}, {1, 2, 3, 3}}
	for i, one := range orders {
		for k, two := range orders {
			p, q := make([]api.Pair, len(one)), make([]api.Pair, len(two))
			for n := range p {
				p[n].A = one[n]
			}
			for n := range q {
				q[n].A = two[n]
			}
			wantSame(t, "pool", api.Tenant{Pool: one}, api.Tenant{Pool: two}, i == k)
			wantSame(t, "statics", api.Tenant{Statics: p}, api.Tenant{Statics: q}, i == k)
			wantSame(t, "twices", api.Tenant{Twices: p}, api.Tenant{Twices: q}, i == k)
		}
	}
}

// P12.3 and DOC.md, what holds everywhere, 2: a nil list and an empty one are the same, and neither is one of a nought.
func TestSameNothing(t *testing.T) {
	empty := api.Tenant{Pool: []uint32{}, Statics: []api.Pair{}, Twices: []api.Pair{}}
	wantSame(t, "empty and nil", empty, api.Tenant{}, true)
	wantSame(t, "empty of spare room", api.Tenant{Pool: make([]uint32, 0, 5), Statics: make([]api.Pair, 3)[:0]}, api.Tenant{}, true)
	for _, x := range []api.Tenant{{Pool: []uint32{0}}, {Statics: []api.Pair{{}}}, {Twices: []api.Pair{{}}}} {
		wantSame(t, "one of a nought", x, empty, false)
		wantSame(t, "one of a nought", x, api.Tenant{}, false)
	}
}

// P12.3: of any two, held to reflect; spare room says nothing.
func TestSameAny(t *testing.T) {
	r := random(13)
	for range 3000 {
		x, y := randomTenant(r, 4), randomTenant(r, 4)
		wantSame(t, "unlike ones", x, y, equalTenants(x, y))
		copied := bareTenant(x)
		copied.Pool = slices.Grow(copied.Pool, 3)
		copied.Statics = append(copied.Statics, api.Pair{A: 9})[:len(x.Statics)]
		wantSame(t, "a copy", x, copied, true)
		back, _, _ := cfg.OpenTenant(cfg.Tenant(x))
		wantSame(t, "read back", x, back, equalTenants(x, back))
		wantSame(t, "cut off and read back", cutTenant(x), back, true)
	}
}
