package log

import (
	"errors"

	"lych/api"
	"lych/disk"
)

// slots: the blocks are parted into two rows, so that one entry stays while another is written.
const slots = 2

// entry is a record as it lies in the blocks of a slot.
type entry struct {
	slot   int
	turn   uint64 // one more than that of the entry that was the newest before it
	count  int    // so many records there were with it
	record []byte
}

// slotBlocks tells how many blocks a slot of d has.
func slotBlocks(d *disk.Disk) int {
	return (d.Blocks() - 1) / slots
}

// other tells the slot that isn't this one.
func other(slot int) int {
	return 1 - slot
}

// later tells whether turn a is later than b. They may have gone round, so their difference is asked.
func later(a, b uint64) bool {
	return int64(a-b) > 0
}

// find tells the entries that are whole in d, the newest one last.
func find(d *disk.Disk) ([]entry, api.Errno) {
	var out []entry
	for slot := range slots {
		e, err := read(d, slot)
		var failed api.Errno
		switch {
		case errors.Is(err, errNotWhole): // so no record was acknowledged there, or it is lost
		case errors.As(err, &failed):
			return nil, failed
		default:
			out = append(out, e)
		}
	}
	if len(out) == slots && later(out[0].turn, out[1].turn) {
		out[0], out[1] = out[1], out[0]
	}
	return out, api.OK
}

// newest tells the last one of entries, or a nought one.
func newest(entries []entry) entry {
	if len(entries) == 0 {
		return entry{}
	}
	return entries[len(entries)-1]
}

// kept tells the entries' records. An older one that the newest doesn't follow by its count isn't one of the last ones: its Append had failed, or the one between is lost.
func kept(entries []entry) [][]byte {
	var out [][]byte
	for i, e := range entries {
		if i == len(entries)-1 || e.count+1 == newest(entries).count {
			out = append(out, same(e.record))
		}
	}
	return out
}

// read tells the entry that lies in a slot, or errNotWhole, or the disk's error.
func read(d *disk.Disk, slot int) (entry, error) {
	first, err := readPiece(d, slot, 0)
	if err != nil {
		return entry{}, err
	}
	e := entry{slot: slot, turn: first.turn, count: first.count}
	e.record = append(e.record, first.bytes...)
	for i := 1; i < first.pieces; i++ {
		p, err := readPiece(d, slot, i)
		if err != nil {
			return entry{}, err
		}
		if p.turn != first.turn {
			return entry{}, errNotWhole
		}
		e.record = append(e.record, p.bytes...)
	}
	return e, nil
}

// readPiece tells piece i of what lies in a slot, or errNotWhole, or the disk's error.
func readPiece(d *disk.Disk, slot, i int) (piece, error) {
	b, failed := d.Read(slot*slotBlocks(d) + i)
	if failed != api.OK {
		return piece{}, failed
	}
	p, err := unframed(b)
	if err != nil {
		return piece{}, err
	}
	if p.index != i || p.pieces > slotBlocks(d) {
		return piece{}, errNotWhole
	}
	return p, nil
}

// write lays e into its slot.
func write(d *disk.Disk, e entry) api.Errno {
	first, all := e.slot*slotBlocks(d), split(e, d.Size()-frame)
	// The first block is blank from the first change to the slot till all else is there. So wherever a write fails, it is whole only if the slot is as it was or holds all of e, and no checksum need tell it.
	if err := d.Write(first, make([]byte, d.Size())); err != api.OK {
		return err
	}
	for i := len(all) - 1; i >= 0; i-- {
		if err := d.Write(first+i, framed(all[i], d.Size())); err != api.OK {
			return err
		}
	}
	return api.OK
}

// split tells e's pieces, of at most that many bytes each; a record of no bytes is one piece.
func split(e entry, most int) []piece {
	n := max(1, (len(e.record)+most-1)/most)
	out := make([]piece, n)
	rest := e.record
	for i := range out {
		k := min(most, len(rest))
		out[i] = piece{turn: e.turn, count: e.count, index: i, pieces: n, bytes: rest[:k]}
		rest = rest[k:]
	}
	return out
}
