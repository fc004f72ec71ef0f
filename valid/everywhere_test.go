package valid_test

import (
	"reflect"
	"slices"
	"strings"
	"sync"
	"testing"

	"lych/api"
	"lych/valid"
)

// copied tells t with lists of their own.
func copied(t api.Tenant) api.Tenant {
	t.Pool, t.Statics, t.Twices = slices.Clone(t.Pool), slices.Clone(t.Statics), slices.Clone(t.Twices)
	return t
}

// roomy tells t with lists that have room behind them which isn't blank, and a function that tells whether all of it is as it was.
func roomy(t api.Tenant) (api.Tenant, func() bool) {
	filler := api.Pair{A: 0x5a, B: 0xa5}
	whole := t
	whole.Pool = append(slices.Clone(t.Pool), 0x5a5a5a5a, 0, 0x5a5a5a5a)
	whole.Statics = append(slices.Clone(t.Statics), filler, filler, api.Pair{})
	whole.Twices = append(slices.Clone(t.Twices), filler, filler, api.Pair{})
	before := copied(whole)
	t.Pool, t.Statics, t.Twices = whole.Pool[:len(t.Pool)], whole.Statics[:len(t.Statics)], whole.Twices[:len(t.Twices)]
	return t, func() bool { return reflect.DeepEqual(whole, before) }
}

// DOC.md, what holds everywhere, 3: nothing that is handed in is changed, nor the room behind it, and what stands in that room says nothing.
func TestNothingIsChanged(t *testing.T) {
	r := random(6)
	for range 20000 {
		c := randomSettings(r, 4)
		tenantWants := make([]api.Errno, len(c.Tenants))
		want := modelCheck(c)
		var was []func() bool
		for i, x := range c.Tenants {
			tenantWants[i] = modelTenant(x)
			var same func() bool
			c.Tenants[i], same = roomy(x)
			was = append(was, same)
		}
		whole := append(slices.Clone(c.Tenants), right(0), api.Tenant{}, right(1))
		before := slices.Clone(whole)
		c.Tenants = whole[:len(c.Tenants)]
		if got := valid.Check(c); got != want {
			t.Fatalf("Check(%v) = %v; want %v", c, got, want)
		}
		for i, x := range c.Tenants {
			if got := valid.Tenant(x); got != tenantWants[i] {
				t.Fatalf("Tenant(%v) = %v; want %v", x, got, tenantWants[i])
			}
			if valid.Owns(x, 0x5a5a5a5a) || valid.Owns(x, 0xa5) {
				t.Fatal("what is behind a list is owned")
			}
		}
		if !reflect.DeepEqual(whole, before) {
			t.Fatal("the tenants are changed")
		}
		for _, same := range was {
			if !same() {
				t.Fatal("a list is changed")
			}
		}
	}
}

// DOC.md, what holds everywhere, 2: a nil list and an empty one are the same.
func TestNilAndEmpty(t *testing.T) {
	empty := with(func(x *api.Tenant) { x.Pool, x.Statics, x.Twices = []uint32{}, []api.Pair{}, []api.Pair{} })
	none := with(func(x *api.Tenant) { x.Pool, x.Statics, x.Twices = nil, nil, nil })
	for _, x := range []api.Tenant{empty, none} {
		wantTenant(t, "no lists", x, api.OK)
		wantCheck(t, "no lists", settings(x), api.OK)
		wantOwns(t, x, 0, false)
	}
	wantCheck(t, "no tenants", api.Config{Ip: 1, Tenants: []api.Tenant{}}, api.OK)
	wantCheck(t, "nil tenants", api.Config{Ip: 1}, api.OK)
}

// DOC.md, what holds everywhere, 3 and 8: what is answered hangs on nothing that was asked ahead of it, on lists that were changed since, nor on what is asked at the same time.
func TestNothingIsKept(t *testing.T) {
	c := rights(3)
	wantCheck(t, "ahead", c, api.OK)
	c.Tenants[2].Pool[0] = c.Tenants[0].Pool[0]
	wantCheck(t, "changed", c, api.ErrPool)
	wantTenant(t, "changed", c.Tenants[2], api.OK)
	c.Tenants[2].Pool[0] = 0
	wantTenant(t, "changed again", c.Tenants[2], api.ErrPool)
	c.Tenants[2].Pool[0] = 77
	wantCheck(t, "and again", c, api.OK)
	wantOwns(t, c.Tenants[2], 77, true)

	shared := rights(16)
	var all sync.WaitGroup
	for seed := range uint64(8) {
		all.Go(func() {
			r := random(100 + seed)
			for range 300 {
				c := randomSettings(r, 5)
				if got, want := valid.Check(c), modelCheck(c); got != want {
					t.Errorf("Check(%v) = %v; want %v", c, got, want)
				}
				if got := valid.Check(shared); got != api.OK {
					t.Errorf("Check = %v", got)
				}
				if got := valid.Tenant(shared.Tenants[r.IntN(16)]); got != api.OK {
					t.Errorf("Tenant = %v", got)
				}
			}
		})
	}
	all.Wait()
}

// DOC.md, what holds everywhere, 1: lists and names of any length are told of, soon.
func TestGreatLists(t *testing.T) {
	const many = 1 << 20
	wantOne := func(what string, x api.Tenant, want api.Errno) {
		t.Helper()
		if got := valid.Tenant(x); got != want {
			t.Errorf("%s: %v; want %v", what, got, want)
		}
		if got := valid.Check(settings(x)); got != want {
			t.Errorf("%s: %v; want %v", what, got, want)
		}
	}
	wantOne("name", with(func(x *api.Tenant) { x.Name = strings.Repeat("a", many) }), api.ErrName)
	wantOne("pool", with(func(x *api.Tenant) { x.Pool = ips(1, many) }), api.ErrPool)
	wantOne("statics", with(func(x *api.Tenant) { x.Statics = pairs(1, 1<<28, many) }), api.ErrRule)
	wantOne("twices", with(func(x *api.Tenant) { x.Twices = pairs(1, 1<<28, many) }), api.ErrRule)
	if got := valid.Check(settings(make([]api.Tenant, many)...)); got != api.ErrGateway {
		t.Errorf("tenants: %v", got)
	}
	if !valid.Owns(api.Tenant{Pool: ips(1, many), Statics: pairs(1, 1<<28, many)}, 1<<28+many-1) {
		t.Error("the last one isn't owned")
	}
}

// FuzzCheck makes settings of any bytes and holds all calls to their models.
func FuzzCheck(f *testing.F) {
	f.Add([]byte{})
	f.Add([]byte(strings.Repeat("\x01\x02\x03", 100)))
	f.Add([]byte{2, 3, 1, 1, 1, 0, 2, 2, 2, 9, 9, 9, 1, 1, 2, 3, 4, 5, 6, 7, 8})
	f.Fuzz(func(t *testing.T, b []byte) {
		next := func() uint32 {
			if len(b) == 0 {
				return 1
			}
			x := b[0]
			b = b[1:]
			return uint32(x)
		}
		c := settings()
		c.Ip, c.Drain = next(), 4*next()
		for i := range next() % 20 {
			x := right(int(i))
			x.Name, x.Vni = string([]byte{byte('`' + next()%40), byte('a' + i)}), next()
			x.Pool, x.Statics, x.Twices = nil, nil, nil
			for range next() % 10 {
				x.Pool = append(x.Pool, next())
			}
			for range next() % 18 {
				x.Statics = append(x.Statics, api.Pair{A: next(), B: next()})
			}
			for range next() % 18 {
				x.Twices = append(x.Twices, api.Pair{A: next(), B: next()})
			}
			x.Lo, x.Hi, x.Filter, x.Sess, x.Queue = uint16(next()), uint16(next()), int(next()%5)-1, int(next())*2, int(next())
			x.Rate, x.Burst, x.Vtep = next()*5000, next()*5000, next()
			c.Tenants = append(c.Tenants, x)
		}
		if got, want := valid.Check(c), modelCheck(c); got != want {
			t.Fatalf("Check(%v) = %v; want %v", c, got, want)
		}
		for _, x := range c.Tenants {
			if got, want := valid.Tenant(x), modelTenant(x); got != want {
				t.Fatalf("Tenant(%v) = %v; want %v", x, got, want)
			}
			ip := next()
			wantOwns(t, x, ip, slices.Contains(owned(x), ip))
		}
	})
}
