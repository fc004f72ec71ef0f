package sess_test

import (
	"encoding/binary"
	"math/rand/v2"
	"slices"
	"sync"
	"testing"

	"lych/api"
	"lych/sess"
)

// spoil writes over a list and the room behind it.
func spoil(list []api.Point) {
	whole := list[:cap(list)]
	for i := range whole {
		whole[i] = point(0x66666666, 666)
	}
}

// roomy tells a list with room behind it, and the whole of both.
func roomy(n int) (list, whole []api.Point) {
	whole = points(n + 5)
	return whole[:n], whole
}

// DOC.md, what holds everywhere, 3: what Add and Put are handed is not changed, nor the room behind it, and is the caller's to change.
func TestHandedInIsTheCallers(t *testing.T) {
	for n := range 12 {
		x := sess.New()
		list, whole := roomy(n)
		before := slices.Clone(whole)
		s := api.Sess{Key: key(6, 10, 4000), Out: point(5, 1024), Peers: list}
		want := own(s)
		wantAdd(t, x, s, 1, api.OK, 1)
		wantAdd(t, x, s, 2, api.ErrSessHave, 1)
		wantAdd(t, x, of(key(6, 11, 4000), point(5, 1026), 1), 1, api.ErrSessFull, 1)
		wantIs(t, x, want)
		if !slices.Equal(whole, before) {
			t.Fatalf("Add changed %v to %v", before, whole)
		}
		spoil(list)
		wantIs(t, x, want)
		wantAll(t, x, want)

		list, whole = roomy(n)
		s.Peers = list[n/2:]
		want = own(s)
		wantPut(t, x, s, true)
		if !slices.Equal(whole, before) {
			t.Fatalf("Put changed %v to %v", before, whole)
		}
		spoil(list)
		wantIs(t, x, want)
		wantAll(t, x, want)
	}
}

// DOC.md, what holds everywhere, 3: what Find, Out and All answer is the caller's to change, and no two lists of it share any.
func TestAnsweredIsTheCallers(t *testing.T) {
	x := sess.New()
	list, _ := roomy(3)
	var want []api.Sess
	for i := range 5 {
		s := api.Sess{Key: key(6, 10, i), Out: point(5, i), Peers: list}
		wantAdd(t, x, s, 5, api.OK, i+1)
		want = append(want, own(s))
	}
	for range 3 {
		for _, s := range want {
			found, _ := x.Find(s.Key)
			out, _ := x.Out(6, s.Out)
			spoil(found.Peers)
			if text(out) != text(s) {
				t.Fatalf("Find and Out share a list: %s", text(out))
			}
			spoil(out.Peers)
			wantIs(t, x, s)
		}
		all, again := x.All(), x.All()
		for i := range all {
			spoil(all[i].Peers)
			all[i].Gen = 666
			if texts(all[i+1:]) != texts(want[i+1:]) {
				t.Fatalf("two lists of All share: %s", texts(all))
			}
		}
		if texts(again) != texts(want) {
			t.Fatalf("two answers of All share: %s", texts(again))
		}
		_ = append(again[:2], api.Sess{})
		wantAll(t, x, want...)
	}
}

// DOC.md, what holds everywhere, 3: what was answered stays as it was, whatever is told behind it.
func TestAnsweredStays(t *testing.T) {
	x := sess.New()
	s := of(key(6, 10, 4000), point(5, 1024), 3)
	wantAdd(t, x, s, 1, api.OK, 1)
	found, _ := x.Find(s.Key)
	out, _ := x.Out(6, s.Out)
	all := x.All()
	wantPut(t, x, api.Sess{Key: s.Key, Peers: make([]api.Point, 3)}, true)
	wantDrop(t, x, s.Key, true, 0)
	wantAdd(t, x, of(s.Key, point(5, 1026), 2), 1, api.OK, 1)
	for _, got := range append(all, found, out) {
		if text(got) != text(s) {
			t.Fatalf("%s; was %s", text(got), text(s))
		}
	}
}

// DOC.md, what holds everywhere, 8: two tables have nothing in common.
func TestTablesAreApart(t *testing.T) {
	x, other := sess.New(), sess.New()
	a := of(key(6, 10, 4000), point(5, 1024), 3)
	b := of(key(6, 10, 4000), point(5, 1026), 2)
	c := of(key(6, 11, 4000), point(5, 1024), 1)
	wantAdd(t, x, a, 1, api.OK, 1)
	wantAll(t, other)
	wantNoKey(t, other, a.Key)
	wantNoOut(t, other, 6, a.Out)
	wantPut(t, other, a, false)
	wantDrop(t, other, a.Key, false, 0)
	wantIs(t, x, a)
	wantAdd(t, other, b, 2, api.OK, 1)
	wantAdd(t, other, c, 2, api.OK, 2)
	wantAll(t, x, a)
	wantNoOut(t, x, 6, b.Out)
	wantPut(t, other, of(b.Key, b.Out, 9), true)
	wantIs(t, x, a)
	wantDrop(t, x, a.Key, true, 0)
	wantAll(t, other, of(b.Key, b.Out, 9), c)
	wantAll(t, sess.New())
}

// DOC.md, what holds everywhere, 4 and 8: what is refused, and what is only asked, changes nothing.
func TestRefusedChangesNothing(t *testing.T) {
	r := random(4)
	b := newBoth(t)
	for i := range 60 {
		b.add(of(key(6, 10, i), point(5, i), i), 60)
	}
	for range 5000 {
		s := of(key(6, 10, r.IntN(80)), point(5, r.IntN(80)), r.IntN(9))
		b.add(s, r.IntN(61))
		if b.m.at(s.Key) < 0 {
			b.put(s)
			b.drop(s)
		}
		s.Key.Proto = 17
		b.put(s)
		b.drop(s)
		b.out(s.Key.Proto, s.Key.In)
	}
	b.all()
	if len(b.m.list) != 60 {
		t.Fatal(len(b.m.list))
	}
}

// wantUnlike holds P19.5 to what All tells: it goes through all pairs.
func wantUnlike(t *testing.T, x *sess.Table) {
	t.Helper()
	all := x.All()
	for i, a := range all {
		for _, b := range all[:i] {
			if a.Key == b.Key || a.Key.Proto == b.Key.Proto && a.Out == b.Out {
				t.Fatalf("alike: %s, %s", text(a), text(b))
			}
		}
	}
}

// move tells the session, with another outside point, of one that is there, if there is any.
func move(b both, s api.Sess, r *rand.Rand) api.Sess {
	if len(b.m.list) > 0 {
		s.Key = b.m.list[r.IntN(len(b.m.list))].Key
	}
	return s
}

// do does one thing at random: few keys, few points, so that they meet often.
func do(b both, r *rand.Rand) {
	b.t.Helper()
	proto := protos()[r.IntN(5)]
	k := key(proto, addresses()[r.IntN(6)], numbers()[r.IntN(3)])
	s := of(k, point(addresses()[r.IntN(3)], numbers()[r.IntN(6)]), r.IntN(40))
	switch r.IntN(8) {
	case 0, 1, 2:
		b.add(s, 1+r.IntN(100))
	case 3:
		b.add(s, len(b.m.list)+r.IntN(3)-1)
	case 4:
		b.put(s)
	case 5:
		b.put(move(b, s, r))
	case 6:
		b.drop(move(b, s, r))
	default:
		b.drop(s)
	}
}

// P19.1, P19.5: any calls in any order, held to a model that goes through all sessions one by one.
func TestAnyCalls(t *testing.T) {
	r := random(5)
	for range 20 {
		b := newBoth(t)
		for i := range 1500 {
			do(b, r)
			if i%100 == 0 {
				b.all()
				wantUnlike(t, b.x)
			}
		}
		b.all()
		for _, s := range b.m.all() {
			b.drop(s)
		}
		b.all()
	}
}

// DOC.md, what holds everywhere, 1 and 10: very many sessions hold up no call.
func TestVeryMany(t *testing.T) {
	const many = 200000
	next := func(i int) api.Sess {
		return api.Sess{Key: key(6, uint32(i>>10), i&1023), Out: point(uint32(i)>>16, i&65535), Gen: uint32(i), Peers: points(1)}
	}
	x := sess.New()
	for i := range many {
		if err := x.Add(next(many-1-i), many); err != api.OK {
			t.Fatal(i, err)
		}
	}
	wantAdd(t, x, next(many), many, api.ErrSessFull, many)
	for i := range many {
		s := next(i)
		s.Gen++
		if !x.Put(s) {
			t.Fatal(i)
		}
		found, _ := x.Find(s.Key)
		out, _ := x.Out(6, s.Out)
		if found.Gen != uint32(i)+1 || out.Gen != found.Gen {
			t.Fatal(i, found, out)
		}
	}
	for i, s := range x.All() {
		if s.Gen != uint32(i)+1 {
			t.Fatal(i, s)
		}
		if !x.Drop(s.Key) {
			t.Fatal(i)
		}
	}
	wantAll(t, x)
}

// DOC.md, what holds everywhere, 8: what is answered hangs on nothing that is asked of others at the same time, nor on a map's order.
func TestSameAgain(t *testing.T) {
	play := func() (all string) {
		r := random(6)
		x := sess.New()
		for range 3000 {
			s := of(key(byte(r.IntN(3)), uint32(r.IntN(5)), r.IntN(20)), point(uint32(r.IntN(5)), r.IntN(20)), r.IntN(9))
			if x.Add(s, 100) != api.OK {
				x.Drop(s.Key)
			}
			if r.IntN(100) == 0 {
				all += texts(x.All())
			}
		}
		return all
	}
	want := play()
	var all sync.WaitGroup
	for range 8 {
		all.Go(func() {
			if play() != want {
				t.Error("other answers")
			}
		})
	}
	all.Wait()
}

// FuzzTable makes calls of any bytes and holds them to the model.
func FuzzTable(f *testing.F) {
	f.Add([]byte{})
	f.Add([]byte("\x00\x06\x01\x01\x05\x01\x09\x01\x00\x06\x02\x01\x05\x01\x09\x02\x01\x06\x01\x01\x05\x02\x09\x03\x02\x06\x01\x01\x05\x01\x09\x04"))
	f.Fuzz(func(t *testing.T, bytes []byte) {
		b := newBoth(t)
		for row := range slices.Chunk(bytes, 8) {
			if len(row) < 8 {
				break
			}
			n := int(binary.BigEndian.Uint16(row[6:]))
			s := of(key(row[1], uint32(row[2]), int(row[3])), point(uint32(row[4]), int(row[5])), n)
			switch row[0] % 3 {
			case 0:
				b.add(s, n%64-1)
			case 1:
				b.put(s)
			default:
				b.drop(s)
			}
		}
		b.all()
		wantUnlike(t, b.x)
	})
}

// FuzzStep holds what Step and Life tell of any state to the tables.
func FuzzStep(f *testing.F) {
	f.Add(byte(6), 0, byte(2), true)
	f.Add(byte(6), -1, byte(0), false)
	f.Add(byte(17), 14, byte(4), true)
	f.Fuzz(func(t *testing.T, proto byte, state int, flags byte, in bool) {
		want, life := 1, map[byte]uint32{1: 6, 17: 30}[proto]
		if proto == 6 {
			want = steps()[uint64(state)%16].want(int(flags), in)
			life = [4]uint32{4, 200, 2, 2}[uint64(state)%4]
		}
		wantStep(t, proto, state, int(flags), in, want)
		if got := sess.Life(proto, state); got != life {
			t.Fatalf("Life(%d, %d) = %d; want %d", proto, state, got, life)
		}
	})
}
