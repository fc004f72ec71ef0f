package txn_test

import (
	"reflect"
	"strings"
	"testing"

	"lych/api"
	"lych/disk"
	"lych/log"
	"lych/txn"
	"lych/valid"
)

// P16.3: settings that may be become what holds, with the version and 1; the transaction is gone; another Open finds them.
func TestCommit(t *testing.T) {
	d := disk.New(8, 4096)
	s := open(t, d)
	for i, c := range []api.Config{settings(1), settings(1), settings(2, right(1)), settings(2, right(0), right(1)), settings(3, right(0)), settings(4, rights(16)...), settings(5)} {
		commit(t, s, c)
		wantFound(t, d, uint64(i)+1, c)
	}
}

// P16.3: a Commit of a transaction in which nothing was staged is one as any other; so is one that puts back what held.
func TestCommitOfNothing(t *testing.T) {
	c := settings(3, rights(2)...)
	s, d := holding(t, 5, c)
	for version := range uint64(4) {
		wantErr(t, "Begin", s.Begin(5+version), api.OK)
		wantErr(t, "Stage", s.Stage(taken("t01")), api.OK)
		wantErr(t, "Stage", s.Stage(put(right(1))), api.OK)
		wantCommitted(t, s, c)
		wantFound(t, d, 6+version, c)
	}
}

// greatest tells the greatest settings that may be.
func greatest() api.Config {
	c := settings(999)
	for i := range api.MaxTenants {
		n := uint32(i) << 8
		t := right(i)
		t.Name += strings.Repeat("n", api.MaxName-len(t.Name))
		t.Vni, t.Lo, t.Hi, t.Filter = 0xffffff-n, 1, 65535, api.FilterPort
		t.Sess, t.Queue, t.Rate, t.Burst = api.MaxSess, api.MaxQueue, api.MaxRate, api.MaxRate
		t.Pool, t.Statics, t.Twices = nil, nil, nil
		for k := range uint32(api.MaxPool) {
			t.Pool = append(t.Pool, 0xf0000001+n+k)
		}
		for k := range uint32(api.MaxRules) {
			t.Statics = append(t.Statics, api.Pair{A: 0x0a000001 + k, B: 0xf0000080 + n + k})
			t.Twices = append(t.Twices, api.Pair{A: 0x0b000001 + k, B: 0xff000001 + k})
		}
		c.Tenants = append(c.Tenants, t)
	}
	return c
}

// P16.3: the greatest settings that may be are read back as they were: a record cuts nothing off.
func TestCommitGreatest(t *testing.T) {
	c := greatest()
	if err := valid.Check(c); err != api.OK {
		t.Fatal(err)
	}
	for _, row := range [][2]int{{64, 256}, {4, 8192}} {
		d := disk.New(row[0], row[1])
		commit(t, open(t, d), c)
		wantFound(t, d, 1, c)
	}
}

// wrongStagings are what makes settings of the tenants 0 and 1 such that may not be, what mends them, and valid.Check's error.
func wrongStagings() map[string]struct {
	wrong, mend api.Change
	want        api.Errno
} {
	type row = struct {
		wrong, mend api.Change
		want        api.Errno
	}
	turned := func(want api.Errno, change func(*api.Tenant)) row {
		return row{put(with(1, change)), put(right(1)), want}
	}
	return map[string]row{
		"no network":      turned(api.ErrVni, func(x *api.Tenant) { x.Vni = 0 }),
		"one network":     turned(api.ErrVni, func(x *api.Tenant) { x.Vni = right(0).Vni }),
		"a great network": turned(api.ErrVni, func(x *api.Tenant) { x.Vni = 1 << 24 }),
		"one pool":        turned(api.ErrPool, func(x *api.Tenant) { x.Pool = right(0).Pool }),
		"a great pool":    turned(api.ErrPool, func(x *api.Tenant) { x.Pool = greatest().Tenants[0].Pool; x.Pool = append(x.Pool, 1) }),
		"the gateway's":   turned(api.ErrPool, func(x *api.Tenant) { x.Pool = []uint32{settings(0).Ip} }),
		"no ports":        turned(api.ErrPorts, func(x *api.Tenant) { x.Lo = 0 }),
		"ports":           turned(api.ErrPorts, func(x *api.Tenant) { x.Lo = x.Hi + 1 }),
		"filter":          turned(api.ErrRule, func(x *api.Tenant) { x.Filter = 3 }),
		"filter cut off":  turned(api.ErrRule, func(x *api.Tenant) { x.Filter = 256 }),
		"a static twice":  turned(api.ErrRule, func(x *api.Tenant) { x.Statics = append(x.Statics, x.Statics[0]) }),
		"no sessions":     turned(api.ErrQuota, func(x *api.Tenant) { x.Sess = 0 }),
		"a great queue":   turned(api.ErrQuota, func(x *api.Tenant) { x.Queue = 1<<16 + 1 }),
		"no burst":        turned(api.ErrQuota, func(x *api.Tenant) { x.Burst = 0 }),
		"no tunnel end":   turned(api.ErrGateway, func(x *api.Tenant) { x.Vtep = 0 }),
		"a new one":       {put(with(2, func(x *api.Tenant) { x.Vni = 0 })), taken("t02"), api.ErrVni},
	}
}

// P16.3: settings that valid.Check refuses: its error, nothing is written; the transaction stays as it was, and can be mended and committed, or aborted.
func TestCommitChecked(t *testing.T) {
	for what, row := range wrongStagings() {
		c := settings(3, rights(2)...)
		s, d := holding(t, 5, c)
		s.Begin(5)
		s.Gateway(settings(4))
		wantErr(t, what, s.Stage(row.wrong), api.OK)
		staged, _ := s.Staged()
		if valid.Check(staged) != row.want {
			t.Fatalf("%s: %v", what, valid.Check(staged))
		}
		wantRefused(t, s, d, row.want)
		wantErr(t, what, s.Stage(taken("nobody")), api.ErrName)
		wantErr(t, what, s.Stage(row.mend), api.OK)
		wantCommitted(t, s, settings(4, rights(2)...))
		wantFound(t, d, 6, settings(4, rights(2)...))
		s.Begin(6)
		s.Stage(row.wrong)
		wantRefused(t, s, d, row.want)
		wantErr(t, what, s.Abort(), api.OK)
		wantFound(t, d, 6, settings(4, rights(2)...))
	}
}

// P16.3: a gateway that may not be, and too many tenants, mended.
func TestCommitGatewayChecked(t *testing.T) {
	drain := func(n uint32) api.Config { c := settings(3); c.Drain = n; return c }
	for _, wrong := range []api.Config{{}, drain(api.MaxDrain + 1), drain(1<<32 - 1)} {
		s, d := holding(t, 5, settings(3, rights(2)...))
		s.Begin(5)
		s.Gateway(wrong)
		wantRefused(t, s, d, api.ErrGateway)
		wantErr(t, "Gateway", s.Gateway(drain(api.MaxDrain)), api.OK)
		c := drain(api.MaxDrain)
		c.Tenants = rights(2)
		wantCommitted(t, s, c)
	}
	s, d := holding(t, 5, settings(3, rights(16)...))
	s.Begin(5)
	s.Stage(put(right(16)))
	wantRefused(t, s, d, api.ErrGateway)
	wantErr(t, "Stage", s.Stage(taken("t00")), api.OK)
	wantCommitted(t, s, settings(3, rights(17)[1:]...))
	empty := open(t, disk.New(4, 256))
	empty.Begin(0)
	if n, err := empty.Commit(); n != 0 || err != api.ErrGateway {
		t.Errorf("zero settings: %d, %v", n, err)
	}
}

// sized tells settings whose record has so many bytes: as many small tenants as have room, the first one made greater.
func sized(t *testing.T, bytes int) api.Config {
	t.Helper()
	c, next := settings(3), settings(3)
	for i := 0; len(record(0, next)) <= bytes; i++ {
		c = next
		next.Tenants = append(next.Tenants, api.Tenant{Name: right(i).Name, Vni: right(i).Vni, Vtep: 1, Lo: 1, Hi: 1, Sess: 1, Queue: 1, Burst: 1})
	}
	left, first := bytes-len(record(0, c)), &c.Tenants[0]
	for left >= 4 && len(first.Pool) < api.MaxPool {
		first.Pool = append(first.Pool, 0x05050001+uint32(len(first.Pool)))
		left -= 4
	}
	first.Name += strings.Repeat("-", left)
	if len(record(0, c)) != bytes || valid.Check(c) != api.OK {
		t.Fatalf("%d bytes, %v; want %d", len(record(0, c)), valid.Check(c), bytes)
	}
	return c
}

// P16.3: settings too great for the log, by one byte and by many: ErrLogSize, the transaction stays and can be mended; as great as may be: committed.
func TestCommitTooGreat(t *testing.T) {
	for _, row := range [][2]int{{4, 256}, {4, 300}, {5, 256}, {8, 256}, {7, 300}} {
		d := disk.New(row[0], row[1])
		s := open(t, d)
		room := log.Room(d)
		commit(t, s, settings(1))
		for n, great := range []api.Config{sized(t, room+1), sized(t, room+2), greatest()} {
			version, c := uint64(n)+1, s.Config()
			stage(t, s, great)
			wantRefused(t, s, d, api.ErrLogSize)
			wantFound(t, d.Copy(), version, c)
			for _, x := range great.Tenants {
				wantErr(t, "Stage", s.Stage(taken(x.Name)), api.OK)
			}
			fits := sized(t, room-n)
			for _, x := range fits.Tenants {
				wantErr(t, "Stage", s.Stage(put(x)), api.OK)
			}
			wantErr(t, "Gateway", s.Gateway(fits), api.OK)
			wantCommitted(t, s, fits)
			wantFound(t, d, version+1, fits)
		}
		stage(t, s, greatest())
		wantRefused(t, s, d, api.ErrLogSize)
		wantErr(t, "Abort", s.Abort(), api.OK)
		wantFound(t, d, 4, sized(t, room-2))
	}
}

// wantStays holds Commit to an error that leaves the transaction open and the store not down, whatever its disk is.
func wantStays(t *testing.T, s *txn.Store, want api.Errno) {
	t.Helper()
	version, holds := s.Version(), s.Config()
	staged, _ := s.Staged()
	if n, err := s.Commit(); n != 0 || err != want {
		t.Fatalf("Commit: %d, %v; want %v", n, err, want)
	}
	wantHolds(t, s, version, holds)
	wantStaged(t, s, staged)
}

// P16.3: of Commit's errors where several would hold: no transaction, valid.Check's, the log's, the disk's; only the last one takes the store down, and behind it that it is down comes first.
func TestCommitOrderOfErrors(t *testing.T) {
	d := disk.New(4, 256)
	s := open(t, d)
	commit(t, s, settings(1))
	kill(d)
	wantStays := func(want api.Errno) { t.Helper(); wantStays(t, s, want) }
	if n, err := s.Commit(); n != 0 || err != api.ErrTxnNone {
		t.Fatalf("%d, %v", n, err)
	}
	s.Begin(1)
	for _, x := range greatest().Tenants {
		wantErr(t, "Stage", s.Stage(put(x)), api.OK)
	}
	s.Gateway(api.Config{})
	wantStays(api.ErrGateway)
	s.Gateway(settings(2))
	wantStays(api.ErrLogSize)
	s.Stage(put(with(3, func(x *api.Tenant) { x.Lo = 0 })))
	wantStays(api.ErrGateway)
	s.Stage(taken(greatest().Tenants[7].Name))
	wantStays(api.ErrPorts)
	s.Stage(taken("t03"))
	wantStays(api.ErrLogSize)
	for i, x := range greatest().Tenants {
		if i != 7 {
			wantErr(t, "Stage", s.Stage(taken(x.Name)), api.OK)
		}
	}
	if n, err := s.Commit(); n != 0 || err != api.ErrDiskDead {
		t.Fatalf("%d, %v", n, err)
	}
	wantDown(t, s, 1, settings(1))
	d.Power()
	wantDown(t, s, 1, settings(1))
	wantFound(t, d, 1, settings(1))
}

// P16.3: an Abort ahead of the Commit leaves a store on a dead disk as it is, and with power it goes on.
func TestDeadDiskTakesNoneDownButByCommit(t *testing.T) {
	s, d := holding(t, 5, settings(3, rights(2)...))
	kill(d)
	s.Begin(5)
	s.Stage(taken("t01"))
	wantErr(t, "Abort", s.Abort(), api.OK)
	wantHolds(t, s, 5, settings(3, rights(2)...))
	d.Power()
	commit(t, s, settings(4, right(1)))
	wantFound(t, d, 6, settings(4, right(1)))
}

// P16.3: that a store is down says nothing of another one that is opened on its disk behind Power; it stays down itself.
func TestDownAlone(t *testing.T) {
	s, d := holding(t, 5, settings(3, rights(2)...))
	stage(t, s, settings(4, right(1)))
	d.Cut(0, 0)
	if n, err := s.Commit(); n != 0 || err != api.ErrDiskDead {
		t.Fatalf("%d, %v", n, err)
	}
	wantNoStore(t, d, api.ErrDiskDead)
	d.Power()
	other := wantFound(t, d, 5, settings(3, rights(2)...))
	commit(t, other, settings(9, right(2)))
	wantDown(t, s, 5, settings(3, rights(2)...))
	wantHolds(t, other, 6, settings(9, right(2)))
	wantFound(t, d, 6, settings(9, right(2)))
}

// P16.5: versions rise by one with each Commit, through openings; neither Abort, a refused Commit nor a transaction that was open as the store was opened anew takes a version, or leaves anything.
func TestVersionsRise(t *testing.T) {
	r := random(3)
	d := disk.New(8, 1024)
	s := open(t, d)
	holds := api.Config{}
	for version := range uint64(300) {
		switch r.IntN(4) {
		case 0:
			stage(t, s, randomSettings(r, 3))
			s = wantFound(t, d, version, holds)
		case 1:
			stage(t, s, randomSettings(r, 3))
			wantErr(t, "Abort", s.Abort(), api.OK)
		case 2:
			stage(t, s, randomSettings(r, 3))
			s.Gateway(api.Config{})
			wantRefused(t, s, d, api.ErrGateway)
			s.Abort()
		}
		holds = randomSettings(r, 3)
		stage(t, s, holds)
		if n, err := s.Commit(); n != version+1 || err != api.OK {
			t.Fatalf("%d, %v; want %d", n, err, version+1)
		}
		wantHolds(t, s, version+1, holds)
	}
	wantFound(t, d, 300, holds)
}

// P16.1, P16.5: a transaction that is open as the store is opened anew is gone, and nothing of it is there.
func TestOpenedAnew(t *testing.T) {
	c := settings(3, rights(2)...)
	s, d := holding(t, 5, c)
	was := blocks(d)
	stage(t, s, settings(4, right(1)))
	other := wantFound(t, d, 5, c)
	if !reflect.DeepEqual(blocks(d), was) {
		t.Error("it wrote")
	}
	wantErr(t, "Begin", other.Begin(5), api.OK)
	wantStaged(t, other, c)
}
