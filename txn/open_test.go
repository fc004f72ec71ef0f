package txn_test

import (
	"bytes"
	"reflect"
	"slices"
	"testing"

	"lych/api"
	"lych/cfg"
	"lych/disk"
	"lych/log"
	"lych/txn"
)

// The errors' numbers, as the chapter tells them.
func TestNumbers(t *testing.T) {
	if api.ErrTxnOpen != 110 || api.ErrTxnNone != 111 || api.ErrTxnVersion != 112 || api.ErrTxnDown != 113 {
		t.Error(api.ErrTxnOpen, api.ErrTxnNone, api.ErrTxnVersion, api.ErrTxnDown)
	}
}

// The example: Begin(0), Stage, Commit: 1.
func TestExample(t *testing.T) {
	d := disk.New(8, 1024)
	s := open(t, d)
	wantErr(t, "Begin", s.Begin(0), api.OK)
	wantErr(t, "Gateway", s.Gateway(settings(5)), api.OK)
	wantErr(t, "Stage", s.Stage(put(right(0))), api.OK)
	if n, err := s.Commit(); n != 1 || err != api.OK {
		t.Fatalf("%d, %v", n, err)
	}
	wantFound(t, d, 1, settings(5, right(0)))
}

// P16.1: of an empty disk of any form: zero settings, version 0; Open writes nothing.
func TestOpenEmpty(t *testing.T) {
	for _, row := range [][2]int{{4, 256}, {5, 257}, {64, 256}, {4, 65536}} {
		d := disk.New(row[0], row[1])
		was := blocks(d)
		d.Cut(0, 0)
		for range 2 {
			s := wantFound(t, d, 0, api.Config{})
			if !reflect.DeepEqual(s.Config(), api.Config{}) {
				t.Errorf("%v", s.Config())
			}
		}
		if d.Dead() || !reflect.DeepEqual(blocks(d), was) {
			t.Error("it wrote")
		}
	}
}

// P16.1: of a log of one record, and of many, the last one's settings and version, though its version isn't the highest; the bytes of a record.
func TestOpenLast(t *testing.T) {
	d := disk.New(8, 1024)
	for i, version := range []uint64{1, 2, 3, 1 << 8, 0x0102030405060708, 5, 1<<64 - 2, 1 << 63, 0, 7} {
		c := settings(i, rights(i%4)...)
		lay(t, d, record(version, c))
		wantFound(t, d, version, c)
		wantFound(t, d.Copy(), version, c)
	}
	lay(t, d, append([]byte{1, 2, 3, 4, 5, 6, 7, 8}, cfg.Config(settings(3, rights(2)...))...))
	wantFound(t, d, 0x0102030405060708, settings(3, rights(2)...))
	lay(t, d, make([]byte, 8+35))
	wantFound(t, d, 0, api.Config{})
}

// P16.1: what a Commit lays in the log is the version, its highest byte first, and cfg.Config.
func TestRecordsBytes(t *testing.T) {
	d := disk.New(8, 1024)
	for _, version := range []uint64{0, 1, 0xff, 0x01020304050607ff, 1<<64 - 2} {
		lay(t, d, record(version, settings(1, right(3))))
		c := settings(int(version%7), rights(int(version%3))...)
		commit(t, open(t, d), c)
		l, kept, err := log.Open(d)
		if err != api.OK || !bytes.Equal(l.Last(), record(version+1, c)) || !bytes.Equal(kept[len(kept)-1], l.Last()) {
			t.Errorf("% x, %v; want % x", l.Last(), err, record(version+1, c))
		}
	}
}

// P16.1: settings that may not be, and tenants in any order, are told as they lie there: a record is asked only whether it can be read.
func TestOpenTakesAllThatCanBeRead(t *testing.T) {
	d := disk.New(8, 4096)
	twice := settings(1, right(2), right(1), right(2), named(""), named("A"), with(1, func(x *api.Tenant) { x.Vni = 0 }))
	for _, c := range []api.Config{{}, {Drain: 1<<32 - 1}, {Tenants: make([]api.Tenant, 20)}, twice, settings(1, rights(17)...)} {
		lay(t, d, record(9, c))
		s := wantFound(t, d, 9, c)
		wantErr(t, "Begin", s.Begin(9), api.OK)
		wantStaged(t, s, c)
	}
	lay(t, d, record(9, twice))
	s := open(t, d)
	s.Begin(9)
	wantRefused(t, s, d, api.ErrName)
	wantErr(t, "Stage", s.Stage(taken("A")), api.ErrName)
	wantErr(t, "Stage", s.Stage(taken("")), api.ErrName)
	wantStaged(t, s, twice)
	wantErr(t, "Stage", s.Stage(taken("t02")), api.OK)
	wantStaged(t, s, settings(1, named(""), named("A"), right(1)))
}

// P16.1: log.Open's own errors, and no store.
func TestOpenLogsErrors(t *testing.T) {
	for _, row := range [][2]int{{1, 64}, {3, 256}, {3, 65536}, {4, 255}, {64, 64}} {
		d := disk.New(row[0], row[1])
		wantNoStore(t, d, api.ErrLogRoom)
		kill(d)
		wantNoStore(t, d, api.ErrLogRoom)
	}
	wantNoStore(t, nil, api.ErrLogRoom)
	wantNoStore(t, &disk.Disk{}, api.ErrLogRoom)
	d := disk.New(4, 1024)
	kill(d)
	wantNoStore(t, d, api.ErrDiskDead)
	d.Power()
	wantFound(t, d, 0, api.Config{})
	lay(t, d, record(4, settings(4, right(1))))
	kill(d)
	wantNoStore(t, d, api.ErrDiskDead)
	d.Power()
	wantFound(t, d, 4, settings(4, right(1)))
	lay(t, d, []byte("no settings"))
	kill(d)
	wantNoStore(t, d, api.ErrDiskDead)
	d.Power()
	wantNoStore(t, d, api.ErrCode)
}

// wrongRecords are such that can't be read.
func wrongRecords() map[string][]byte {
	whole := record(1, settings(2, rights(2)...))
	more := slices.Clone(whole)
	more[8+34]++
	fewer := slices.Clone(whole)
	fewer[8+34]--
	return map[string][]byte{
		"empty": {}, "a byte": {1}, "shorter than a version": whole[:7], "a version alone": whole[:8], "and a byte": whole[:9],
		"settings alone": whole[8:], "no tenants cut short": record(1, settings(2))[:8+34], "no tenants, a byte too many": append(record(1, settings(2)), 0),
		"cut short": whole[:len(whole)-1], "a byte too many": append(slices.Clone(whole), 0), "twice": append(slices.Clone(whole), whole...),
		"a tenant more is told": more, "a tenant fewer is told": fewer, "text": []byte("gateway 10.0.0.1"), "all ones": bytes.Repeat([]byte{0xff}, 100),
	}
}

// P16.1: a last record that can't be read is ErrCode, alone or behind others; of one that isn't the last nothing is asked.
func TestOpenWrongRecord(t *testing.T) {
	for what, b := range wrongRecords() {
		d := disk.New(8, 1024)
		for n := range 4 {
			lay(t, d, b)
			if s, err := txn.Open(d); err != api.ErrCode || s != nil {
				t.Errorf("%s, behind %d others: %v, %v", what, n, s, err)
			}
			lay(t, d, record(uint64(n), settings(n, right(n))))
			wantFound(t, d, uint64(n), settings(n, right(n)))
		}
	}
}

// P16.1: a record that is cut short at each place.
func TestOpenCutRecord(t *testing.T) {
	d := disk.New(8, 1024)
	whole := record(3, settings(2, rights(2)...))
	for n := range whole {
		lay(t, d, whole[:n])
		wantNoStore(t, d, api.ErrCode)
	}
	lay(t, d, whole)
	wantFound(t, d, 3, settings(2, rights(2)...))
}

// FuzzOpen holds Open to reading a record of any bytes, or not.
func FuzzOpen(f *testing.F) {
	for _, b := range wrongRecords() {
		f.Add(b)
	}
	f.Add(record(1, settings(2, rights(2)...)))
	f.Fuzz(func(t *testing.T, b []byte) {
		d := disk.New(8, 4096)
		if len(b) > log.Room(d) {
			return
		}
		lay(t, d, b)
		var want api.Config
		err := api.ErrCode
		if len(b) >= 8 {
			want, err = cfg.OpenConfig(b[8:])
		}
		if err != api.OK {
			wantNoStore(t, d, api.ErrCode)
			return
		}
		s := open(t, d)
		if !bytes.Equal(record(s.Version(), s.Config()), b) {
			t.Fatalf("% x: %d, %v", b, s.Version(), s.Config())
		}
		wantFound(t, d, s.Version(), want)
	})
}
