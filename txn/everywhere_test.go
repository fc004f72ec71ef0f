package txn_test

import (
	"reflect"
	"testing"

	"lych/api"
	"lych/disk"
	"lych/txn"
)

// spoil writes over a list, and over all its room.
func spoil[E any](list []E, with E) {
	list = list[:cap(list)]
	for i := range list {
		list[i] = with
	}
}

// spoilTenant is spoil of a tenant's lists.
func spoilTenant(t api.Tenant) {
	spoil(t.Pool, 0xdddddddd)
	spoil(t.Statics, api.Pair{A: 0xdddddddd})
	spoil(t.Twices, api.Pair{A: 0xdddddddd})
}

// spoilAll is spoil of all lists of settings.
func spoilAll(c api.Config) {
	for _, t := range c.Tenants {
		spoilTenant(t)
	}
	spoil(c.Tenants, api.Tenant{Name: "spoilt"})
}

// roomy tells list with room behind it that isn't blank.
func roomy[E any](list []E, filler E) []E {
	whole := append(append([]E(nil), list...), filler, filler, filler)
	return whole[:len(list)]
}

// roomyTenant is roomy of a tenant's lists.
func roomyTenant(t api.Tenant) api.Tenant {
	t.Pool = roomy(t.Pool, 0x5a5a5a5a)
	t.Statics = roomy(t.Statics, api.Pair{A: 0x5a, B: 0xa5})
	t.Twices = roomy(t.Twices, api.Pair{A: 0x5a, B: 0xa5})
	return t
}

// wholeOf tells a tenant's lists with all their room.
func wholeOf(t api.Tenant) (lists [3]any) {
	return [3]any{append([]uint32(nil), t.Pool[:cap(t.Pool)]...), append([]api.Pair(nil), t.Statics[:cap(t.Statics)]...), append([]api.Pair(nil), t.Twices[:cap(t.Twices)]...)}
}

// DOC.md, what holds everywhere, 3: Stage neither changes nor keeps what it is handed, nor the room behind it.
func TestStageKeepsNothing(t *testing.T) {
	s := begun(t, settings(3, right(1)))
	for _, c := range []api.Change{put(roomyTenant(right(0))), put(roomyTenant(named("A"))), {Name: "t01", T: roomyTenant(right(5))}, {Name: "nobody", T: roomyTenant(right(5))}} {
		was, whole := bare(api.Config{Tenants: []api.Tenant{c.T}}), wholeOf(c.T)
		s.Stage(c)
		if !equal(api.Config{Tenants: []api.Tenant{c.T}}, was) || !reflect.DeepEqual(wholeOf(c.T), whole) {
			t.Fatalf("changed: %v", c)
		}
		spoilTenant(c.T)
	}
	wantStaged(t, s, settings(3, right(0)))
	wantCommitted(t, s, settings(3, right(0)))
}

// DOC.md, what holds everywhere, 3: two tenants that are handed in with one list are told with two.
func TestStageSharesNothing(t *testing.T) {
	s := begun(t, settings(3))
	one := right(0)
	one.Twices = one.Statics
	two := one
	two.Name = "t01"
	s.Stage(put(one))
	s.Stage(put(two))
	want := settings(3, one, two)
	wantStaged(t, s, want)
	wantApart(t, func() api.Config { c, _ := s.Staged(); return c }, want)
}

// DOC.md, what holds everywhere, 3: Gateway neither changes nor keeps the tenants that it is handed, nor the room behind them.
func TestGatewayKeepsNothing(t *testing.T) {
	s := begun(t, settings(3, right(1)))
	list := []api.Tenant{roomyTenant(right(0)), roomyTenant(right(2)), right(7), right(8)}
	c := settings(9, list[:2]...)
	wantErr(t, "Gateway", s.Gateway(c), api.OK)
	s.Stage(put(right(4)))
	if !equal(api.Config{Tenants: list}, api.Config{Tenants: []api.Tenant{right(0), right(2), right(7), right(8)}}) {
		t.Fatalf("changed: %v", list)
	}
	spoilAll(c)
	wantStaged(t, s, settings(9, right(1), right(4)))
	wantCommitted(t, s, settings(9, right(1), right(4)))
}

// wantApart holds the lists of one answer to memory of their own: each is written over in its turn, and all the others are as want says.
func wantApart(t *testing.T, answer func() api.Config, want api.Config) {
	t.Helper()
	for i := range want.Tenants {
		for part := range 3 {
			got, left := answer(), bare(want)
			x, y := &got.Tenants[i], &left.Tenants[i]
			switch part {
			case 0:
				spoil(x.Pool, 0xdddddddd)
				x.Pool, y.Pool = nil, nil
			case 1:
				spoil(x.Statics, api.Pair{A: 0xdddddddd})
				x.Statics, y.Statics = nil, nil
			case 2:
				spoil(x.Twices, api.Pair{A: 0xdddddddd})
				x.Twices, y.Twices = nil, nil
			}
			if !equal(got, left) {
				t.Fatalf("tenant %d, list %d: %v; want %v", i, part, got, left)
			}
		}
	}
}

// DOC.md, what holds everywhere, 3: what Config and Staged tell is new memory each time: whoever writes over it changes nothing, neither what holds, what is staged, nor what is laid in the log.
func TestAnswersAreNewMemory(t *testing.T) {
	c := settings(3, rights(3)...)
	s, d := holding(t, 5, c)
	staged := func() api.Config { x, _ := s.Staged(); return x }
	wantApart(t, s.Config, c)
	s.Begin(5)
	for range 2 {
		spoilAll(s.Config())
		wantHolds(t, s, 5, c)
		wantStaged(t, s, c)
		spoilAll(staged())
		wantHolds(t, s, 5, c)
		wantStaged(t, s, c)
	}
	wantApart(t, staged, c)
	s.Gateway(settings(4))
	s.Stage(put(right(5)))
	next := settings(4, right(0), right(1), right(2), right(5))
	spoilAll(staged())
	spoilAll(s.Config())
	wantHolds(t, s, 5, c)
	wantStaged(t, s, next)
	wantApart(t, staged, next)
	early := staged()
	wantCommitted(t, s, next)
	spoilAll(early)
	spoilAll(s.Config())
	wantHolds(t, s, 6, next)
	wantApart(t, s.Config, next)
	wantFound(t, d, 6, next)
}

// DOC.md, what holds everywhere, 3: what was told stays as it was, whatever is staged and committed behind it.
func TestAnswersStay(t *testing.T) {
	c := settings(3, rights(3)...)
	s, _ := holding(t, 5, c)
	held := s.Config()
	s.Begin(5)
	first, _ := s.Staged()
	for _, x := range c.Tenants {
		s.Stage(taken(x.Name))
		s.Stage(put(with(9, func(y *api.Tenant) { y.Name = x.Name; y.Vni = x.Vni; y.Pool = nil; y.Statics = nil })))
	}
	s.Gateway(settings(8))
	if _, err := s.Commit(); err != api.OK {
		t.Fatal(err)
	}
	if !equal(held, c) || !equal(first, c) {
		t.Errorf("%v, %v; want %v", held, first, c)
	}
}

// DOC.md, what holds everywhere, 3: behind a Commit that failed what is told is new memory, too.
func TestAnswersOfADownStore(t *testing.T) {
	c := settings(3, rights(2)...)
	s, d := holding(t, 5, c)
	stage(t, s, settings(4, right(1)))
	wantCrash(t, d, s, 0, 9)
	spoilAll(s.Config())
	wantDown(t, s, 5, c)
	wantApart(t, s.Config, c)
}

// DOC.md, what holds everywhere, 2: empty lists and nil ones are the same.
func TestEmptyLists(t *testing.T) {
	empty := with(0, func(x *api.Tenant) { x.Pool, x.Statics, x.Twices = []uint32{}, []api.Pair{}, []api.Pair{} })
	none := with(0, func(x *api.Tenant) { x.Pool, x.Statics, x.Twices = nil, nil, nil })
	d := disk.New(8, 1024)
	s := open(t, d)
	for i, x := range []api.Tenant{empty, none} {
		s.Begin(uint64(i))
		gateway := settings(3)
		gateway.Tenants = []api.Tenant{}
		wantErr(t, "Gateway", s.Gateway(gateway), api.OK)
		wantErr(t, "Stage", s.Stage(put(x)), api.OK)
		wantStaged(t, s, settings(3, none))
		wantCommitted(t, s, settings(3, none))
		wantFound(t, d, uint64(i)+1, settings(3, none))
	}
}

// DOC.md, what holds everywhere, 3: an Open goes on with the disk itself, not with another one that is as it is; disks that are copies are apart.
func TestOpenGoesOnWithItsDisk(t *testing.T) {
	s, d := holding(t, 5, settings(3, right(0)))
	other := d.Copy()
	commit(t, s, settings(4, right(1)))
	wantFound(t, d, 6, settings(4, right(1)))
	wantFound(t, other, 5, settings(3, right(0)))
}

// play does a row of random calls on a new disk, and tells all that they answered.
func play(seed uint64) (answers []any) {
	r := random(seed)
	d := disk.New(4+r.IntN(5), 256+r.IntN(400))
	s, _ := txn.Open(d)
	for range 200 {
		switch r.IntN(9) {
		case 0, 1:
			answers = append(answers, s.Begin(s.Version()))
		case 2, 3, 4:
			c, _ := randomChange(r)
			answers = append(answers, s.Stage(c))
		case 5:
			answers = append(answers, s.Gateway(randomSettings(r, 2)))
		case 6, 7:
			n, err := s.Commit()
			answers = append(answers, n, err)
		case 8:
			d.Cut(r.IntN(9), r.IntN(300))
			if s.Down() {
				d.Power()
				s, _ = txn.Open(d)
			}
		}
		c, err := s.Staged()
		answers = append(answers, c, err, s.Config(), s.Version(), s.Down())
	}
	return answers
}

// DOC.md, what holds everywhere, 8: the same calls tell the same again.
func TestSameAgain(t *testing.T) {
	for seed := range uint64(20) {
		if want := play(seed); !reflect.DeepEqual(play(seed), want) {
			t.Fatalf("seed %d", seed)
		}
	}
}
