package txn_test

import (
	"reflect"
	"slices"
	"strings"
	"testing"

	"lych/addr"
	"lych/api"
	"lych/disk"
	"lych/log"
	"lych/txn"
)

// holding tells a store on a new disk whose version is that, with these settings.
func holding(t *testing.T, version uint64, c api.Config) (*txn.Store, *disk.Disk) {
	t.Helper()
	d := disk.New(8, 4096)
	lay(t, d, record(version, c))
	return open(t, d), d
}

// begun is holding, with a transaction open.
func begun(t *testing.T, c api.Config) *txn.Store {
	t.Helper()
	s, _ := holding(t, 5, c)
	wantErr(t, "Begin", s.Begin(5), api.OK)
	return s
}

// P16.2: Begin at the version that holds, and at others; twice; behind Abort and Commit.
func TestBegin(t *testing.T) {
	for _, version := range []uint64{0, 1, 5, 1 << 32, 1 << 63, 1<<64 - 2} {
		c := settings(3, rights(2)...)
		s, _ := holding(t, version, c)
		others := []uint64{version + 1, version - 1, version + 2, version ^ 1<<63, version ^ 1<<32, ^version, version + 256}
		wantOthers := func(want api.Errno) {
			t.Helper()
			for _, v := range others {
				wantErr(t, "Begin", s.Begin(v), want)
			}
			wantHolds(t, s, version, c)
		}
		wantOthers(api.ErrTxnVersion)
		wantNone(t, s)
		for range 2 {
			wantErr(t, "Begin", s.Begin(version), api.OK)
			wantStaged(t, s, c)
			wantErr(t, "Begin", s.Begin(version), api.ErrTxnOpen)
			wantOthers(api.ErrTxnOpen)
			wantStaged(t, s, c)
			wantErr(t, "Abort", s.Abort(), api.OK)
			wantOthers(api.ErrTxnVersion)
		}
		s.Begin(version)
		wantCommitted(t, s, c)
		wantErr(t, "Begin", s.Begin(version), api.ErrTxnVersion)
		wantErr(t, "Begin", s.Begin(version+1), api.OK)
		wantErr(t, "Begin", s.Begin(version), api.ErrTxnOpen)
	}
}

// P16.2: Begin of a store that was never written; its transaction's settings are zero ones.
func TestBeginEmpty(t *testing.T) {
	s := open(t, disk.New(4, 1024))
	wantErr(t, "Begin", s.Begin(1), api.ErrTxnVersion)
	wantErr(t, "Begin", s.Begin(1<<64-1), api.ErrTxnVersion)
	wantErr(t, "Begin", s.Begin(0), api.OK)
	wantStaged(t, s, api.Config{})
}

// P16.2: what was staged in a transaction is no longer there in the next one.
func TestBeginAfresh(t *testing.T) {
	c := settings(3, rights(2)...)
	s := begun(t, c)
	s.Stage(taken("t00"))
	s.Stage(put(right(7)))
	s.Gateway(settings(9))
	wantStaged(t, s, settings(9, right(1), right(7)))
	wantErr(t, "Begin", s.Begin(5), api.ErrTxnOpen)
	wantStaged(t, s, settings(9, right(1), right(7)))
	wantErr(t, "Abort", s.Abort(), api.OK)
	wantErr(t, "Begin", s.Begin(5), api.OK)
	wantStaged(t, s, c)
}

// P16.2: with no transaction, and behind Abort and Commit, there is none.
func TestNoTransaction(t *testing.T) {
	c := settings(3, rights(2)...)
	s, d := holding(t, 5, c)
	wantNone(t, s)
	wantErr(t, "Begin", s.Begin(4), api.ErrTxnVersion)
	wantNone(t, s)
	s.Begin(5)
	wantErr(t, "Abort", s.Abort(), api.OK)
	wantNone(t, s)
	wantFound(t, d, 5, c)
	s.Begin(5)
	s.Stage(taken("t01"))
	wantCommitted(t, s, settings(3, right(0)))
	wantNone(t, s)
	wantHolds(t, s, 6, settings(3, right(0)))
}

// P16.2: a put one whose tenant's name isn't right, or is another than its Name, and names that are right, at the edges of addr.Name.
func TestStagePutNames(t *testing.T) {
	long := strings.Repeat("n", 33)
	for name, want := range map[string]api.Errno{
		"a": 0, "t00": 0, "z-9": 0, "\u00e9": 0, "\u0080": 0, long[:32]: 0, "\u00e9" + long[:30]: 0,
		"": 90, "A": 90, "0a": 90, "-a": 90, "a b": 90, "a_": 90, "a\x00": 90, "\xff": 90, "a\x80": 90, "a\x7f": 90, long: 90, "\u00e9" + long[:31]: 90, long + long: 90,
	} {
		c := settings(3, right(1))
		s := begun(t, c)
		wantErr(t, name, s.Stage(put(named(name))), want)
		if want != api.OK {
			wantStaged(t, s, c)
		} else if got, _ := s.Staged(); len(got.Tenants) != 2 {
			t.Errorf("%q: %v", name, got)
		}
		if addr.Name(name) != (want == api.OK) {
			t.Errorf("%q", name)
		}
		s = begun(t, c)
		for _, other := range []string{"b", "t01", name + "x", "", "A"} {
			if other != name {
				wantErr(t, name, s.Stage(api.Change{Put: true, Name: other, T: named(name)}), api.ErrName)
				wantErr(t, name, s.Stage(api.Change{Put: true, Name: name, T: named(other)}), api.ErrName)
			}
		}
		wantStaged(t, s, c)
	}
}

// P16.2: one that is taken away must be there, and its name right; its T says nothing.
func TestStageTakenNames(t *testing.T) {
	c := settings(3, rights(3)...)
	s := begun(t, c)
	for _, name := range []string{"", "A", "t0", "t000", "t03", "T00", "t00\x00", "\xff", "nobody", strings.Repeat("n", 32), strings.Repeat("n", 33)} {
		wantErr(t, name, s.Stage(taken(name)), api.ErrName)
		wantErr(t, name, s.Stage(api.Change{Name: name, T: right(0)}), api.ErrName)
		wantErr(t, name, s.Stage(api.Change{Name: name, T: named(name)}), api.ErrName)
		wantStaged(t, s, c)
	}
	wantErr(t, "t01", s.Stage(taken("t01")), api.OK)
	wantStaged(t, s, settings(3, right(0), right(2)))
	wantErr(t, "t01 again", s.Stage(taken("t01")), api.ErrName)
	wantErr(t, "t00", s.Stage(api.Change{Name: "t00", T: right(2)}), api.OK)
	wantErr(t, "t02", s.Stage(api.Change{Name: "t02", T: named("A")}), api.OK)
	wantStaged(t, s, settings(3))
	wantErr(t, "t02", s.Stage(taken("t02")), api.ErrName)
	wantStaged(t, s, settings(3))
}

// P16.2: one that was put in the same transaction can be taken away; the same name can be put, taken away and put again; one that is put stands for the one that was.
func TestStageAgain(t *testing.T) {
	other := with(5, func(x *api.Tenant) { x.Pool, x.Rate = nil, 77 })
	s := begun(t, settings(3, right(1)))
	for range 3 {
		wantErr(t, "taken", s.Stage(taken("t05")), api.ErrName)
		wantErr(t, "put", s.Stage(put(right(5))), api.OK)
		wantStaged(t, s, settings(3, right(1), right(5)))
		wantErr(t, "put", s.Stage(put(other)), api.OK)
		wantStaged(t, s, settings(3, right(1), other))
		wantErr(t, "put", s.Stage(put(right(5))), api.OK)
		wantErr(t, "taken", s.Stage(taken("t05")), api.OK)
		wantStaged(t, s, settings(3, right(1)))
	}
	wantErr(t, "taken", s.Stage(taken("t01")), api.OK)
	wantErr(t, "put", s.Stage(put(right(1))), api.OK)
	wantErr(t, "put", s.Stage(put(other)), api.OK)
	wantCommitted(t, s, settings(3, right(1), other))
}

// P16.2: tenants are in order of names' bytes, in whatever order they were put; their number has no bound till the Commit, and nor has what may not be.
func TestStageInOrder(t *testing.T) {
	inOrder := []string{"a", "a-", "a-0", "a0", "a9", "aa", "ab", "b", "z", "zz", "\u0080", "\u00e9", "\u00e9a", "\u07ff", "\u0800", "\ud7ff", "\ue000", "\U00010000", "\U0010ffff"}
	var want []api.Tenant
	for _, name := range inOrder {
		want = append(want, named(name))
	}
	r := random(1)
	for range 50 {
		s := begun(t, settings(3))
		for _, i := range r.Perm(len(want)) {
			wantErr(t, "put", s.Stage(put(want[i])), api.OK)
		}
		wantStaged(t, s, settings(3, want...))
		wantErr(t, "put", s.Stage(put(api.Tenant{Name: "a"})), api.OK)
		wantStaged(t, s, settings(3, append([]api.Tenant{{Name: "a"}}, want[1:]...)...))
	}
	great := with(0, func(x *api.Tenant) {
		x.Pool, x.Statics, x.Filter, x.Sess = make([]uint32, 5000), make([]api.Pair, 300), 1<<40, -1
	})
	s := begun(t, settings(3))
	wantErr(t, "put", s.Stage(put(great)), api.OK)
	wantStaged(t, s, settings(3, great))
}

// P16.2: all but Gateway's Tenants are taken, whatever they are; the transaction's tenants stay.
func TestGateway(t *testing.T) {
	c := settings(3, rights(2)...)
	s := begun(t, c)
	all := api.Config{Ip: 1, Mac: api.Mac{1, 2, 3, 4, 5, 6}, OutMac: api.Mac{7, 8, 9, 10, 11, 12}, NextMac: api.Mac{13, 14, 15, 16, 17, 18}, Key: [8]byte{1, 2, 3, 4, 5, 6, 7, 8}, Drain: 1<<32 - 1}
	for _, other := range []api.Config{all, {}, settings(9, right(7)), settings(9, named("A"), named("A")), {Tenants: rights(40)}, all, c} {
		wantErr(t, "Gateway", s.Gateway(other), api.OK)
		other.Tenants = rights(2)
		wantStaged(t, s, other)
		wantHolds(t, s, 5, c)
	}
	for part, change := range map[string]func(*api.Config){
		"Ip": func(c *api.Config) { c.Ip++ }, "Mac": func(c *api.Config) { c.Mac[5]++ }, "OutMac": func(c *api.Config) { c.OutMac[0]++ }, "NextMac": func(c *api.Config) { c.NextMac[3]++ },
		"Key": func(c *api.Config) { c.Key[7]++ }, "Drain": func(c *api.Config) { c.Drain++ },
	} {
		other := bare(c)
		change(&other)
		wantErr(t, part, s.Gateway(other), api.OK)
		wantStaged(t, s, other)
	}
	wantErr(t, "Stage", s.Stage(taken("t00")), api.OK)
	wantErr(t, "Gateway", s.Gateway(settings(8, rights(5)...)), api.OK)
	wantErr(t, "Stage", s.Stage(put(right(2))), api.OK)
	wantCommitted(t, s, settings(8, right(1), right(2)))
}

// P16.2: nothing of what is staged is seen in Config, on the disk or in Version, till it is committed; Abort lets it go.
func TestUnseenTillCommitted(t *testing.T) {
	c := settings(3, rights(2)...)
	s, d := holding(t, 5, c)
	was := blocks(d)
	d.Cut(0, 0)
	unseen := func() {
		t.Helper()
		wantHolds(t, s, 5, c)
		if d.Dead() || !reflect.DeepEqual(blocks(d), was) {
			t.Fatal("it wrote")
		}
	}
	for range 2 {
		s.Begin(5)
		unseen()
		for _, change := range []api.Change{taken("t00"), put(right(0)), put(right(6)), put(with(1, func(x *api.Tenant) { x.Vni = 0 })), taken("nobody"), taken("t01")} {
			s.Stage(change)
			unseen()
		}
		s.Gateway(settings(8))
		unseen()
		wantStaged(t, s, settings(8, right(0), right(6)))
		unseen()
		wantErr(t, "Abort", s.Abort(), api.OK)
		unseen()
		wantNone(t, s)
	}
	d.Power()
	s.Begin(5)
	s.Stage(put(right(6)))
	wantCommitted(t, s, settings(3, right(0), right(1), right(6)))
}

// P16.2: a transaction asks nothing of the disk: without power all but Commit goes on.
func TestStageWithoutPower(t *testing.T) {
	c := settings(3, rights(2)...)
	s, d := holding(t, 5, c)
	kill(d)
	wantHolds(t, s, 5, c)
	wantNone(t, s)
	for range 2 {
		wantErr(t, "Begin", s.Begin(6), api.ErrTxnVersion)
		wantErr(t, "Begin", s.Begin(5), api.OK)
		wantErr(t, "Stage", s.Stage(taken("t01")), api.OK)
		wantErr(t, "Stage", s.Stage(taken("t01")), api.ErrName)
		wantErr(t, "Gateway", s.Gateway(settings(9)), api.OK)
		wantStaged(t, s, settings(9, right(0)))
		wantErr(t, "Abort", s.Abort(), api.OK)
	}
	wantHolds(t, s, 5, c)
}

// P16.2, P16.3: any calls in any order, against the model, through openings.
func TestAnyCalls(t *testing.T) {
	r := random(2)
	answers := map[api.Errno]int{}
	for range 150 {
		d := disk.New(4+r.IntN(5), 256+r.IntN(pick(r, 20, 400)))
		s, m := open(t, d), &model{}
		for range 150 {
			var got, want api.Errno
			switch r.IntN(12) {
			case 0, 1:
				v := pick(r, m.version, m.version, m.version, m.version+1, m.version-1, 0)
				got, want = s.Begin(v), m.begin(v)
			case 2, 3, 4, 5, 6:
				c, rightName := randomChange(r)
				got, want = s.Stage(c), m.stage(c, rightName)
			case 7, 8:
				c := randomSettings(r, 3)
				c.Ip = pick(r, c.Ip, c.Ip, c.Ip, 0)
				got, want = s.Gateway(c), m.gateway(c)
			case 9, 10:
				var n, wantN uint64
				n, got = s.Commit()
				wantN, want = m.commit(log.Room(d))
				if n != wantN {
					t.Fatalf("Commit: %d, %v; want %d, %v", n, got, wantN, want)
				}
			case 11:
				if r.IntN(2) == 0 {
					got, want = s.Abort(), m.abort()
				} else {
					s, m.open = open(t, d), false
				}
			}
			wantErr(t, "a call", got, want)
			wantModel(t, s, m)
			answers[want]++
		}
		wantFound(t, d, m.version, m.holds)
	}
	for _, err := range []api.Errno{0, 51, 90, 91, 96, 110, 111, 112} {
		if answers[err] < 20 {
			t.Errorf("%v is answered %d times only", err, answers[err])
		}
	}
}

// P16.2: of Stage's faults two at once, and with no transaction besides, are one error; nothing is changed.
func TestStageOrderOfErrors(t *testing.T) {
	c := settings(3, rights(2)...)
	s, _ := holding(t, 5, c)
	wrong := []api.Change{{Put: true, Name: "A", T: named("B")}, {Put: true, Name: "t00", T: named("B")}, {Put: true, Name: "B", T: right(0)}, taken("B"), {}, {Put: true}}
	for _, x := range wrong {
		wantErr(t, "Stage", s.Stage(x), api.ErrTxnNone)
	}
	s.Begin(5)
	for _, x := range slices.Concat(wrong, wrong) {
		wantErr(t, "Stage", s.Stage(x), api.ErrName)
		wantStaged(t, s, c)
	}
	wantHolds(t, s, 5, c)
}
