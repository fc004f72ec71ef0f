package txn_test

import (
	"encoding/binary"
	"fmt"
	"math/rand/v2"
	"reflect"
	"slices"
	"testing"

	"lych/api"
	"lych/cfg"
	"lych/disk"
	"lych/log"
	"lych/txn"
	"lych/valid"
)

// right tells a tenant that may be, of a number, which goes with those of other numbers up to 99.
func right(i int) api.Tenant {
	n := uint32(i)
	return api.Tenant{
		Name: fmt.Sprintf("t%02d", i), Vni: 100 + n, Key: [8]byte{1, byte(i)}, Vtep: 0x0b000001 + n, VtepMac: api.Mac{2, byte(i)}, Host: api.Mac{4, byte(i)},
		Pool: []uint32{0x05050001 + n<<8, 0x05050002 + n<<8}, Lo: 1024, Hi: 2047, Filter: i % 3,
		Statics: []api.Pair{{A: 0x0a000064, B: 0x05050008 + n<<8}}, Twices: []api.Pair{{A: 0x0a0000c8, B: 0x08080808}, {A: 0x0a0000c9, B: 0x08080404}},
		Sess: 8, Queue: 4, Rate: 2, Burst: 10,
	}
}

// with tells right(i), changed.
func with(i int, change func(*api.Tenant)) api.Tenant {
	t := right(i)
	change(&t)
	return t
}

// named tells right(0) of another name.
func named(name string) api.Tenant {
	return with(0, func(t *api.Tenant) { t.Name = name })
}

// settings tells such with these tenants; of other numbers they are others.
func settings(n int, tenants ...api.Tenant) api.Config {
	return api.Config{Ip: 0x0b0000ff, Mac: api.Mac{2, 1, byte(n)}, OutMac: api.Mac{2, 2}, NextMac: api.Mac{2, 3}, Key: [8]byte{0xee, byte(n)}, Drain: uint32(n % 1000), Tenants: tenants}
}

// rights tells the tenants of the numbers below n.
func rights(n int) (list []api.Tenant) {
	for i := range n {
		list = append(list, right(i))
	}
	return list
}

// put and taken tell changes that stand for what they say.
func put(t api.Tenant) api.Change { return api.Change{Put: true, Name: t.Name, T: t} }
func taken(n string) api.Change   { return api.Change{Name: n} }

// bare tells a copy of c with memory of its own, its empty lists nil.
func bare(c api.Config) api.Config {
	var list []api.Tenant
	for _, t := range c.Tenants {
		t.Pool = append([]uint32(nil), t.Pool...)
		t.Statics = append([]api.Pair(nil), t.Statics...)
		t.Twices = append([]api.Pair(nil), t.Twices...)
		list = append(list, t)
	}
	c.Tenants = list
	return c
}

func equal(a, b api.Config) bool { return reflect.DeepEqual(bare(a), bare(b)) }

// record tells the bytes of one, as P16.1 tells them.
func record(version uint64, c api.Config) []byte {
	return append(binary.BigEndian.AppendUint64(nil, version), cfg.Config(c)...)
}

// lay appends records to d's log.
func lay(t *testing.T, d *disk.Disk, records ...[]byte) {
	t.Helper()
	l, _, err := log.Open(d)
	if err != api.OK {
		t.Fatal(err)
	}
	for _, b := range records {
		if err := l.Append(b); err != api.OK {
			t.Fatal(err)
		}
	}
}

// kill takes a disk's power away and leaves its blocks as they are.
func kill(d *disk.Disk) {
	d.Cut(0, 0)
	d.Write(0, make([]byte, d.Size()))
}

// blocks tells all that a disk that has power holds.
func blocks(d *disk.Disk) (all [][]byte) {
	for i := range d.Blocks() {
		b, _ := d.Read(i)
		all = append(all, b)
	}
	return all
}

// open holds Open to a store.
func open(t *testing.T, d *disk.Disk) *txn.Store {
	t.Helper()
	s, err := txn.Open(d)
	if err != api.OK || s == nil {
		t.Fatalf("Open: %v, %v", s, err)
	}
	return s
}

// wantNoStore holds Open to an error, and to nothing beside it.
func wantNoStore(t *testing.T, d *disk.Disk, want api.Errno) {
	t.Helper()
	if s, err := txn.Open(d); err != want || s != nil {
		t.Fatalf("Open: %v, %v; want %v", s, err, want)
	}
}

// wantErr holds a call to what it answers.
func wantErr(t *testing.T, what string, got, want api.Errno) {
	t.Helper()
	if got != want {
		t.Fatalf("%s: %v; want %v", what, got, want)
	}
}

// wantHolds holds a store that isn't down to what holds.
func wantHolds(t *testing.T, s *txn.Store, version uint64, c api.Config) {
	t.Helper()
	if s.Version() != version || !equal(s.Config(), c) || s.Down() {
		t.Fatalf("version %d, down %v, %v; want %d, %v", s.Version(), s.Down(), s.Config(), version, c)
	}
}

// wantFound holds what an Open finds to what holds, and tells that store.
func wantFound(t *testing.T, d *disk.Disk, version uint64, c api.Config) *txn.Store {
	t.Helper()
	s := open(t, d)
	wantHolds(t, s, version, c)
	wantNone(t, s)
	return s
}

// wantStaged holds a store to its transaction's settings.
func wantStaged(t *testing.T, s *txn.Store, want api.Config) {
	t.Helper()
	if got, err := s.Staged(); err != api.OK || !equal(got, want) {
		t.Fatalf("Staged: %v, %v; want %v", got, err, want)
	}
}

// wantNoTransaction holds all calls that ask for a transaction to an error, whatever else would be wrong.
func wantNoTransaction(t *testing.T, s *txn.Store, want api.Errno) {
	t.Helper()
	for _, c := range []api.Change{put(right(0)), taken("t00"), {}, {Put: true}, put(named("A")), taken("A"), {Put: true, Name: "a", T: right(0)}, taken("nobody")} {
		wantErr(t, "Stage", s.Stage(c), want)
	}
	wantErr(t, "Gateway", s.Gateway(settings(1)), want)
	wantErr(t, "Gateway", s.Gateway(api.Config{}), want)
	if c, err := s.Staged(); err != want || !reflect.DeepEqual(c, api.Config{}) {
		t.Fatalf("Staged: %v, %v; want %v", c, err, want)
	}
	if n, err := s.Commit(); err != want || n != 0 {
		t.Fatalf("Commit: %d, %v; want %v", n, err, want)
	}
	wantErr(t, "Abort", s.Abort(), want)
}

// wantNone holds a store to having no transaction.
func wantNone(t *testing.T, s *txn.Store) {
	t.Helper()
	wantNoTransaction(t, s, api.ErrTxnNone)
}

// wantDown holds a store to being down, again and again, with what held ahead of it.
func wantDown(t *testing.T, s *txn.Store, version uint64, c api.Config) {
	t.Helper()
	for range 2 {
		for _, v := range []uint64{version, version + 1, version - 1, 0} {
			wantErr(t, "Begin", s.Begin(v), api.ErrTxnDown)
		}
		wantNoTransaction(t, s, api.ErrTxnDown)
		if !s.Down() || s.Version() != version || !equal(s.Config(), c) {
			t.Fatalf("down %v, version %d, %v; want %d, %v", s.Down(), s.Version(), s.Config(), version, c)
		}
	}
}

// stage opens a transaction and makes its settings c, whose tenants are in order.
func stage(t *testing.T, s *txn.Store, c api.Config) {
	t.Helper()
	was := s.Config()
	wantErr(t, "Begin", s.Begin(s.Version()), api.OK)
	for _, x := range was.Tenants {
		wantErr(t, "Stage", s.Stage(taken(x.Name)), api.OK)
	}
	wantErr(t, "Gateway", s.Gateway(c), api.OK)
	for _, x := range slices.Backward(c.Tenants) {
		wantErr(t, "Stage", s.Stage(put(x)), api.OK)
	}
	wantStaged(t, s, c)
}

// wantCommitted holds Commit to the next version, with these settings.
func wantCommitted(t *testing.T, s *txn.Store, c api.Config) {
	t.Helper()
	was := s.Version()
	if n, err := s.Commit(); err != api.OK || n != was+1 {
		t.Fatalf("Commit: %d, %v; want %d", n, err, was+1)
	}
	wantHolds(t, s, was+1, c)
	wantNone(t, s)
}

// commit stages c and holds Commit to it.
func commit(t *testing.T, s *txn.Store, c api.Config) {
	t.Helper()
	stage(t, s, c)
	wantCommitted(t, s, c)
}

// wantRefused holds Commit to an error that changes nothing, neither in the store nor on its disk.
func wantRefused(t *testing.T, s *txn.Store, d *disk.Disk, want api.Errno) {
	t.Helper()
	staged, err := s.Staged()
	if err != api.OK {
		t.Fatal(err)
	}
	version, holds, dead, was := s.Version(), s.Config(), d.Dead(), blocks(d)
	for range 2 {
		if n, err := s.Commit(); err != want || n != 0 {
			t.Fatalf("Commit: %d, %v; want %v", n, err, want)
		}
		wantHolds(t, s, version, holds)
		wantStaged(t, s, staged)
		wantErr(t, "Begin", s.Begin(version), api.ErrTxnOpen)
	}
	if d.Dead() != dead || !reflect.DeepEqual(blocks(d), was) {
		t.Fatal("the disk is changed")
	}
}

// model is a store told by plain means: tenants in lists that are in order at each step.
type model struct {
	version uint64
	holds   api.Config
	open    bool
	staged  api.Config
}

// begin tells what Begin must.
func (m *model) begin(version uint64) api.Errno {
	if m.open {
		return 110
	}
	if version != m.version {
		return 112
	}
	m.open, m.staged = true, bare(m.holds)
	return 0
}

// stage tells what Stage must.
func (m *model) stage(c api.Change, rightName bool) api.Errno {
	if !m.open {
		return 111
	}
	list := m.staged.Tenants
	at, there := slices.BinarySearchFunc(list, c.Name, func(t api.Tenant, name string) int { return slices.Compare([]byte(t.Name), []byte(name)) })
	switch {
	case !rightName, c.Put && c.T.Name != c.Name, !c.Put && !there:
		return 90
	case c.Put && there:
		list[at] = c.T
	case c.Put:
		list = slices.Insert(list, at, c.T)
	default:
		list = slices.Delete(list, at, at+1)
	}
	m.staged.Tenants = list
	m.staged = bare(m.staged)
	return 0
}

// gateway tells what Gateway must.
func (m *model) gateway(c api.Config) api.Errno {
	if !m.open {
		return 111
	}
	c.Tenants = m.staged.Tenants
	m.staged = c
	return 0
}

// abort tells what Abort must.
func (m *model) abort() api.Errno {
	if !m.open {
		return 111
	}
	m.open = false
	return 0
}

// commit tells what Commit must, on a disk with power and room for so many bytes.
func (m *model) commit(room int) (uint64, api.Errno) {
	if !m.open {
		return 0, 111
	}
	if err := valid.Check(m.staged); err != 0 {
		return 0, err
	}
	if len(record(0, m.staged)) > room {
		return 0, 51
	}
	m.version, m.holds, m.open = m.version+1, m.staged, false
	return m.version, 0
}

// wantModel holds a store to its model.
func wantModel(t *testing.T, s *txn.Store, m *model) {
	t.Helper()
	wantHolds(t, s, m.version, m.holds)
	if m.open {
		wantStaged(t, s, m.staged)
	} else if c, err := s.Staged(); err != api.ErrTxnNone || !reflect.DeepEqual(c, api.Config{}) {
		t.Fatalf("Staged: %v, %v", c, err)
	}
}

func random(seed uint64) *rand.Rand { return rand.New(rand.NewPCG(seed, 16)) }

func pick[E any](r *rand.Rand, list ...E) E { return list[r.IntN(len(list))] }

// randomSettings tells such that may be, of up to so many tenants.
func randomSettings(r *rand.Rand, most int) api.Config {
	c := settings(r.IntN(1000))
	for i := range r.IntN(most + 1) {
		c.Tenants = append(c.Tenants, randomTenant(r, i))
	}
	return c
}

// randomTenant tells one of a number that may be.
func randomTenant(r *rand.Rand, i int) api.Tenant {
	t := right(i)
	t.Rate, t.Host = r.Uint32N(1000), api.Mac{byte(r.Uint32())}
	t.Pool, t.Statics, t.Twices = t.Pool[:r.IntN(3)], t.Statics[:r.IntN(2)], t.Twices[:r.IntN(3)]
	return t
}

// randomChange tells one that is often right, of few tenants.
func randomChange(r *rand.Rand) (c api.Change, rightName bool) {
	x := randomTenant(r, r.IntN(5))
	if r.IntN(20) == 0 {
		x.Vni = pick[uint32](r, 0, 100, 1<<24)
	}
	switch r.IntN(12) {
	case 0:
		return pick(r, put(named("A")), put(named("")), taken(""), taken("A"), taken("a\xff"), put(named("0"))), false
	case 1:
		return api.Change{Put: true, Name: pick(r, "a", "t01x"), T: x}, true
	case 2, 3, 4, 5:
		return api.Change{Name: x.Name, T: pick(r, x, right(1), api.Tenant{})}, true
	}
	return put(x), true
}
