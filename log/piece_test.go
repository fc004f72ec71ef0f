package log

import (
	"bytes"
	"errors"
	"math"
	"testing"

	"lych/api"
	"lych/disk"
)

// lay writes pieces into a slot of d as they are told.
func lay(d *disk.Disk, slot int, pieces ...piece) {
	for i, p := range pieces {
		d.Write(slot*slotBlocks(d)+i, framed(p, d.Size()))
	}
}

// The chapter's ways: a block that isn't whole fails by an error that errors.Is tells from the disk's.
func TestNotWhole(t *testing.T) {
	d := disk.New(6, 256)
	if _, err := read(d, 0); !errors.Is(err, errNotWhole) {
		t.Errorf("a blank slot: %v", err)
	}
	b := framed(piece{turn: 1, count: 1, pieces: 1, bytes: []byte("piece")}, 256)
	if p, err := unframed(b); err != nil || string(p.bytes) != "piece" {
		t.Errorf("a whole one: %v, %v", p, err)
	}
	for _, at := range []int{0, sumAt, turnAt, countAt, indexAt, piecesAt, sizeAt, sizeEnd - 1, sizeEnd, bytesAt - 1, bytesAt, 255} {
		for _, x := range []byte{1, 0x80, mark, 0xff} {
			b[at] ^= x
			if p, err := unframed(b); !errors.Is(err, errNotWhole) || p.bytes != nil {
				t.Errorf("byte %d: %v, %v", at, p, err)
			}
			b[at] ^= x
		}
	}
	d.Cut(0, 0)
	d.Write(0, b)
	if _, err := read(d, 0); errors.Is(err, errNotWhole) || !errors.Is(err, api.ErrDiskDead) {
		t.Errorf("without power: %v", err)
	}
}

// P10.2: pieces that are whole, but no entry together, are no record.
func TestNoEntry(t *testing.T) {
	one := piece{turn: 3, count: 3, pieces: 2, bytes: bytes.Repeat([]byte{1}, 192)}
	two := piece{turn: 3, count: 3, index: 1, pieces: 2, bytes: []byte{2}}
	with := func(p piece, change func(*piece)) piece {
		change(&p)
		return p
	}
	rows := [][]piece{
		{one},
		{two, one},
		{one, one},
		{two, two},
		{one, with(two, func(p *piece) { p.turn = 2 })},
		{with(one, func(p *piece) { p.pieces = 3 }), with(two, func(p *piece) { p.pieces = 3 })},
		{with(one, func(p *piece) { p.pieces = 255 }), two},
		{one, with(two, func(p *piece) { p.pieces = 3 })},
	}
	for i, row := range rows {
		for slot := range slots {
			d := disk.New(6, 256)
			lay(d, slot, row...)
			if l, recs, err := Open(d); err != api.OK || len(recs) != 0 || l.Records() != 0 {
				t.Errorf("row %d, slot %d: %v, %d records", i, slot, err, len(recs))
			}
		}
	}
	d := disk.New(6, 256)
	lay(d, 0, one, two)
	if l, recs, err := Open(d); err != api.OK || len(recs) != 1 || l.Records() != 3 || len(l.Last()) != 193 {
		t.Errorf("a whole one: %v, %d records", err, len(recs))
	}
}

// P10.2: turns that go round are in order all the same.
func TestTurnsGoRound(t *testing.T) {
	d := disk.New(4, 256)
	lay(d, 0, piece{turn: math.MaxUint64 - 3, count: 10, pieces: 1})
	l, _, _ := Open(d)
	for n := range 10 {
		if err := l.Append([]byte{byte(n)}); err != api.OK {
			t.Fatal(err)
		}
		again, recs, err := Open(d)
		if err != api.OK || len(recs) != 2 || again.Records() != 11+n || !bytes.Equal(again.Last(), []byte{byte(n)}) {
			t.Fatalf("%d: %v, %d kept, %d records, % x", n, err, len(recs), again.Records(), again.Last())
		}
	}
}
