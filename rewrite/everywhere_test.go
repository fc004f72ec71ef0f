package rewrite_test

import (
	"bytes"
	"slices"
	"testing"

	"lych/api"
	"lych/rewrite"
)

// examples are packets of each kind, with options, and Errors of them.
func examples() [][]byte {
	var list [][]byte
	r := random(47)
	for kind := range kinds {
		s := randomStuff(r, kind)
		s.head.opts, s.ttl = randomBytes(r, 8), 9
		b := s.packet(port(7), port(7))
		list = append(list, b, packet(s.head, 1, 3, 4, message(11, 0, 5, b)))
	}
	return list
}

// DOC.md, what holds everywhere, 1 and 4: no bytes make a call panic; beside an error nothing is answered.
func TestAnyBytes(t *testing.T) {
	r := random(53)
	rows := examples()
	for range 200000 {
		b := bytes.Clone(rows[r.IntN(len(rows))])
		for range r.IntN(4) {
			b[r.IntN(len(b))] = byte(r.Uint32())
		}
		b = b[:len(b)-r.IntN(3)*r.IntN(len(b)/2)]
		// With right checksums more of what is wrong is looked into.
		if n := 4 * int(b[0]&15); r.IntN(2) == 0 && n >= 20 && n+8 <= len(b) {
			copy(b[2:], word(uint16(len(b))))
			b = join(sealed(nil, b[:n], 10), sealed(nil, b[n:], 2))
		}
		src, dst := randomPoint(r), randomPoint(r)
		p, f, err := rewrite.Look(b)
		if err != api.OK && (!samePacket(p, api.Ip{}) || !sameFlow(f, rewrite.Flow{})) {
			t.Fatalf("% x: beside %v: %v, %v", b, err, p, f)
		}
		changed, changeErr := rewrite.Change(b, src, dst)
		inner, innerErr := rewrite.Inner(b, src, dst)
		if err != api.OK && (changeErr != err || innerErr != err) {
			t.Fatalf("% x: %v, %v, %v", b, err, changeErr, innerErr)
		}
		hop, hopErr := rewrite.Hop(b)
		if changeErr != api.OK && len(changed) > 0 || innerErr != api.OK && len(inner) > 0 || hopErr != api.OK && len(hop) > 0 {
			t.Fatalf("% x: beside an error: % x, % x, % x", b, changed, inner, hop)
		}
	}
	for n := range 100 {
		for _, b := range [][]byte{make([]byte, n), bytes.Repeat([]byte{0xff}, n), randomBytes(r, n)} {
			rewrite.Look(b)
			rewrite.Change(b, port(1), port(2))
			rewrite.Inner(b, port(1), port(2))
			rewrite.Hop(b)
		}
	}
}

// spoil writes over a list, and over all its room.
func spoil(list []byte) {
	list = list[:cap(list)]
	for i := range list {
		list[i] ^= 0xff
	}
}

// DOC.md, what holds everywhere, 3: no call changes its bytes, nor the room behind them, nor shares memory with them.
func TestCallsShareNothing(t *testing.T) {
	for _, b := range examples() {
		row := append(bytes.Clone(b), bytes.Repeat([]byte{0x5a}, 64)...)
		before := bytes.Clone(row)
		same := func(what string) {
			t.Helper()
			if !bytes.Equal(row, before) {
				t.Fatalf("%s: % x, was % x", what, row, before)
			}
		}
		for n := range len(b) + 3 {
			p, f, _ := rewrite.Look(row[:n])
			changed, _ := rewrite.Change(row[:n], port(0), port(0))
			inner, _ := rewrite.Inner(row[:n], port(8), port(8))
			hop, _ := rewrite.Hop(row[:n])
			same("by a call")
			for _, list := range [][]byte{p.Opts, p.Body, changed, inner, hop} {
				spoil(list)
			}
			clear(f.Inner)
			same("by an answer")
		}
		p, f, _ := rewrite.Look(row[:len(b)])
		changed, _ := rewrite.Change(row[:len(b)], port(0), port(0))
		inner, _ := rewrite.Inner(row[:len(b)], port(8), port(8))
		hop, _ := rewrite.Hop(row[:len(b)])
		told := join(p.Opts, p.Body, changed, inner, hop)
		points := slices.Clone(f.Inner)
		spoil(row)
		if !bytes.Equal(told, join(p.Opts, p.Body, changed, inner, hop)) || !slices.Equal(points, f.Inner) {
			t.Errorf("an answer is changed by its bytes: % x", b)
		}
	}
}

// DOC.md, what holds everywhere, 3: no two lists of one answer, nor of two, share memory.
func TestAnswersShareNothing(t *testing.T) {
	for _, b := range examples() {
		p, f, _ := rewrite.Look(b)
		q, g, _ := rewrite.Look(b)
		spoil(p.Opts)
		if !bytes.Equal(p.Body, q.Body) || !slices.Equal(f.Inner, g.Inner) || !bytes.Equal(q.Opts, b[20:28]) {
			t.Fatalf("% x: by its options: %v, %v", b, p, q)
		}
		spoil(p.Body)
		if !slices.Equal(f.Inner, g.Inner) || !bytes.Equal(q.Body, b[28:]) {
			t.Fatalf("% x: by its body: %v, %v", b, p, q)
		}
		points := slices.Clone(g.Inner)
		clear(f.Inner)
		if !slices.Equal(points, g.Inner) || !bytes.Equal(q.Body, b[28:]) {
			t.Fatalf("% x: by its inner points: %v, %v", b, q, g)
		}
		for _, call := range []func() []byte{
			func() []byte { out, _ := rewrite.Change(b, port(0), port(0)); return out },
			func() []byte { out, _ := rewrite.Inner(b, port(8), port(8)); return out },
			func() []byte { out, _ := rewrite.Hop(b); return out },
		} {
			one, two := call(), call()
			before := bytes.Clone(two)
			spoil(one)
			if !bytes.Equal(two, before) {
				t.Fatalf("% x: % x", b, two)
			}
		}
	}
}

// DOC.md, what holds everywhere, 3: spare room makes no short row a packet.
func TestSpareRoomSaysNothing(t *testing.T) {
	for _, b := range examples() {
		for n := range b {
			if _, _, err := rewrite.Look(b[:n]); err != api.ErrShort {
				t.Errorf("% x: %v", b[:n], err)
			}
			got, err := rewrite.Hop(b[:n])
			wantRefused(t, "Hop", got, err, api.ErrShort)
		}
	}
}

// DOC.md, what holds everywhere, 8: what is answered hangs on nothing that was asked ahead of it.
func TestNothingIsKept(t *testing.T) {
	b, want := knownDatagram()
	failure, _, moved := knownError()
	for _, ahead := range append(examples(), nil, make([]byte, 40)) {
		rewrite.Look(ahead)
		rewrite.Change(ahead, port(3), port(3))
		rewrite.Inner(ahead, port(3), port(3))
		rewrite.Hop(ahead)
		got, err := rewrite.Change(b, knownC, knownD)
		wantBytes(t, "Change", got, err, want)
		got, err = rewrite.Inner(failure, knownC, knownD)
		wantBytes(t, "Inner", got, err, moved)
		wantFlow(t, "Look", b, rewrite.Flow{Proto: 17, Src: knownA, Dst: knownB})
	}
}
