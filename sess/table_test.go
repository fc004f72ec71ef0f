package sess_test

import (
	"math"
	"slices"
	"testing"

	"lych/api"
	"lych/sess"
)

// P19.1: an empty table tells nothing of any key or point.
func TestNone(t *testing.T) {
	x := sess.New()
	wantAll(t, x)
	for _, k := range keys() {
		wantNoKey(t, x, k)
		wantNoOut(t, x, k.Proto, k.In)
		wantDrop(t, x, k, false, 0)
		wantPut(t, x, of(k, k.In, 3), false)
		wantNoKey(t, x, k)
		wantNoOut(t, x, k.Proto, k.In)
	}
	wantAll(t, x)
}

// P19.1: what is added is there by its key and by its outside point, whole.
func TestAdd(t *testing.T) {
	for i, k := range keys() {
		x := sess.New()
		s := of(k, point(0x05050505, i), i)
		wantAdd(t, x, s, 1, api.OK, 1)
		wantIs(t, x, s)
		wantAll(t, x, s)
		wantNoOut(t, x, k.Proto^1, s.Out)
		wantNoOut(t, x, k.Proto, point(0x05050506, i))
		wantNoOut(t, x, k.Proto, point(0x05050505, i+1))
		wantNoKey(t, x, key(k.Proto^1, k.In.Ip, int(k.In.Port)))
		wantNoKey(t, x, key(k.Proto, k.In.Ip^1, int(k.In.Port)))
		wantNoKey(t, x, key(k.Proto, k.In.Ip, int(k.In.Port^1)))
	}
}

// P19.1: a session of zeros, and one whose every bit is set, are sessions as any other one.
func TestAddEdges(t *testing.T) {
	x := sess.New()
	most := api.Sess{Key: key(255, math.MaxUint32, 65535), Out: point(math.MaxUint32, 65535), Gen: math.MaxUint32, State: -1, Until: math.MaxUint32, Peers: make([]api.Point, 300)}
	wantAdd(t, x, api.Sess{}, 2, api.OK, 1)
	wantAdd(t, x, most, 2, api.OK, 2)
	wantIs(t, x, api.Sess{})
	wantIs(t, x, most)
	wantAll(t, x, api.Sess{}, most)
	for _, state := range []int{math.MinInt, math.MaxInt, 3, 1 << 32} {
		most.State = state
		wantPut(t, x, most, true)
		wantIs(t, x, most)
	}
	wantDrop(t, x, most.Key, true, 1)
	wantDrop(t, x, api.Key{}, true, 0)
	wantNoOut(t, x, 0, api.Point{})
}

// P19.1, P19.5: Add of a key that is there, of an outside point that is there, of both at once: of one session, and of two.
func TestAddHave(t *testing.T) {
	x := sess.New()
	a := of(key(17, 10, 4000), point(5, 1024), 3)
	b := of(key(17, 11, 4000), point(5, 1026), 2)
	wantAdd(t, x, a, 9, api.OK, 1)
	wantAdd(t, x, b, 9, api.OK, 2)
	for _, s := range []api.Sess{
		a,
		of(a.Key, a.Out, 8),
		of(a.Key, point(5, 1028), 8),
		of(a.Key, b.Out, 8),
		of(b.Key, a.Out, 8),
		of(key(17, 12, 4000), a.Out, 8),
		of(key(17, 12, 4000), b.Out, 8),
		of(key(17, 10, 4001), b.Out, 8),
	} {
		for _, most := range []int{9, 3, 2, 1, 0, -1, math.MinInt, math.MaxInt} {
			wantAdd(t, x, s, most, api.ErrSessHave, 2)
			wantAll(t, x, a, b)
			wantIs(t, x, a)
			wantIs(t, x, b)
		}
	}
	wantNoOut(t, x, 17, point(5, 1028))
	wantNoKey(t, x, key(17, 12, 4000))
	wantNoKey(t, x, key(17, 10, 4001))
}

// P19.1, P19.5: an outside point of another protocol is another one, and so is an inside point; an inside point and an outside one have nothing in common.
func TestAddOtherProtocol(t *testing.T) {
	x := sess.New()
	var want []api.Sess
	for i := range 256 {
		s := of(key(byte(i), 10, 4000), point(5, 1024), i)
		wantAdd(t, x, s, 256, api.OK, i+1)
		want = append(want, s)
	}
	for _, s := range want {
		wantIs(t, x, s)
		wantAdd(t, x, of(key(s.Key.Proto, 11, 4000), s.Out, 1), 999, api.ErrSessHave, 256)
	}
	wantAll(t, x, want...)

	x = sess.New()
	a := of(key(6, 1, 2), point(3, 4), 1)
	b := of(key(6, 3, 4), point(1, 2), 2)
	wantAdd(t, x, a, 2, api.OK, 1)
	wantNoKey(t, x, b.Key)
	wantNoOut(t, x, 6, b.Out)
	wantAdd(t, x, b, 2, api.OK, 2)
	wantIs(t, x, a)
	wantIs(t, x, b)
}

// P19.1: Add one below the most, at it, and beyond it.
func TestAddFull(t *testing.T) {
	next := func(i int) api.Sess { return of(key(6, 10, i), point(5, i), i) }
	for _, n := range []int{0, 1, 2, 3, 7, 8, 63, 64, 255, api.MaxSess, api.MaxSess + 1, 1000} {
		x := sess.New()
		for i := range n {
			wantAdd(t, x, next(i), n, api.OK, i+1)
		}
		for _, most := range []int{n, n - 1, n / 2, 0, -1, -n, math.MinInt} {
			wantAdd(t, x, next(n), most, api.ErrSessFull, n)
			wantAdd(t, x, of(key(17, 10, 0), point(5, 0), 1), most, api.ErrSessFull, n)
		}
		wantNoKey(t, x, next(n).Key)
		wantNoOut(t, x, 6, next(n).Out)
		wantNoOut(t, x, 17, point(5, 0))
		wantAdd(t, x, next(n), n+1, api.OK, n+1)
		wantAdd(t, x, next(n+1), math.MaxInt, api.OK, n+2)
		wantAdd(t, x, next(n+2), n+2, api.ErrSessFull, n+2)
		wantDrop(t, x, next(0).Key, true, n+1)
		wantAdd(t, x, next(n+2), n+2, api.OK, n+2)
	}
}

// P19.1: the most counts sessions of all protocols together, and 0 and below leave room for none.
func TestAddMost(t *testing.T) {
	x := sess.New()
	for _, most := range []int{0, -1, -256, math.MinInt} {
		for _, proto := range protos() {
			wantAdd(t, x, of(key(proto, 1, 1), point(1, 1), 1), most, api.ErrSessFull, 0)
			wantNoKey(t, x, key(proto, 1, 1))
			wantNoOut(t, x, proto, point(1, 1))
		}
	}
	for i, proto := range protos() {
		wantAdd(t, x, of(key(proto, 1, 1), point(1, 1), 1), i, api.ErrSessFull, i)
		wantAdd(t, x, of(key(proto, 1, 1), point(1, 1), 1), i+1, api.OK, i+1)
	}
}

// P19.1: Put changes all fields of the session of that key but its outside point, by which it is found still, and by no other one.
func TestPut(t *testing.T) {
	x := sess.New()
	a := of(key(6, 10, 4000), point(5, 1024), 3)
	b := of(key(6, 11, 4000), point(5, 1026), 2)
	wantAdd(t, x, a, 2, api.OK, 1)
	wantAdd(t, x, b, 2, api.OK, 2)
	for i, out := range []api.Point{point(5, 1028), {}, a.Out, b.Out, a.Key.In, point(6, 1024)} {
		s := api.Sess{Key: a.Key, Out: out, Gen: 70 + uint32(i), State: 40 - i, Until: 90 + uint32(i), Peers: []api.Point{point(7, i), point(8, 80), point(7, i)}[:i%4]}
		wantPut(t, x, s, true)
		s.Out = a.Out
		wantIs(t, x, s)
		wantIs(t, x, b)
		wantAll(t, x, s, b)
		if out != a.Out && out != b.Out {
			wantNoOut(t, x, 6, out)
			wantAdd(t, x, of(key(6, 12, 4000), out, 1), 3, api.OK, 3)
			wantDrop(t, x, key(6, 12, 4000), true, 2)
		}
		wantAdd(t, x, of(key(6, 12, 4000), a.Out, 1), 3, api.ErrSessHave, 2)
	}
	wantPut(t, x, a, true)
	wantAll(t, x, a, b)
	wantDrop(t, x, a.Key, true, 1)
	wantNoOut(t, x, 6, a.Out)
	wantIs(t, x, b)
}

// P19.1: each field by itself is Put, to its zero value too.
func TestPutFields(t *testing.T) {
	x := sess.New()
	s := of(key(6, 10, 4000), point(5, 1024), 3)
	wantAdd(t, x, s, 1, api.OK, 1)
	for _, change := range []func(){
		func() { s.Gen++ },
		func() { s.State = api.StateClosing | api.BitIn | api.BitOut },
		func() { s.Until++ },
		func() { s.Peers = append(s.Peers, point(9, 9)) },
		func() { s.Peers[0].Port++ },
		func() { s.Peers = nil },
		func() { s.Peers = make([]api.Point, 20) },
		func() { s.Gen = 0 },
		func() { s.State = 0 },
		func() { s.Until = 0 },
		func() { s.Peers = []api.Point{} },
	} {
		change()
		wantPut(t, x, s, true)
		wantIs(t, x, s)
		wantAll(t, x, s)
	}
}

// P19.1: Put of a key that isn't there makes nothing, though its outside point is there.
func TestPutNone(t *testing.T) {
	x := sess.New()
	a := of(key(6, 10, 4000), point(5, 1024), 3)
	wantAdd(t, x, a, 1, api.OK, 1)
	for _, s := range []api.Sess{
		of(key(17, 10, 4000), a.Out, 1),
		of(key(6, 11, 4000), a.Out, 1),
		of(key(6, 10, 4001), a.Out, 1),
		of(key(6, 5, 1024), point(10, 4000), 1),
	} {
		wantPut(t, x, s, false)
		wantNoKey(t, x, s.Key)
		wantNoOut(t, x, 17, s.Out)
		wantNoOut(t, x, 6, point(10, 4000))
		wantIs(t, x, a)
		wantAll(t, x, a)
	}
	wantDrop(t, x, a.Key, true, 0)
	wantPut(t, x, a, false)
	wantNoOut(t, x, 6, a.Out)
	wantAll(t, x)
}

// P19.1, P19.5: behind a Drop the key and the outside point are free again, each for another session too.
func TestDrop(t *testing.T) {
	x := sess.New()
	a := of(key(6, 10, 4000), point(5, 1024), 3)
	b := of(key(6, 11, 4000), point(5, 1026), 2)
	c := of(key(17, 10, 4000), point(5, 1024), 1)
	for i, s := range []api.Sess{a, b, c} {
		wantAdd(t, x, s, 3, api.OK, i+1)
	}
	wantDrop(t, x, a.Key, true, 2)
	wantDrop(t, x, a.Key, false, 2)
	wantDrop(t, x, key(6, 5, 1024), false, 2)
	wantNoOut(t, x, 6, a.Out)
	wantIs(t, x, b)
	wantIs(t, x, c)
	wantAll(t, x, b, c)
	wantAdd(t, x, a, 3, api.OK, 3)
	wantAll(t, x, a, b, c)

	wantDrop(t, x, a.Key, true, 2)
	d := of(a.Key, point(5, 1028), 7)
	e := of(key(6, 12, 4000), a.Out, 6)
	wantAdd(t, x, d, 4, api.OK, 3)
	wantAdd(t, x, e, 4, api.OK, 4)
	wantIs(t, x, d)
	wantIs(t, x, e)
	wantAll(t, x, d, b, e, c)
	wantDrop(t, x, d.Key, true, 3)
	wantIs(t, x, e)
	wantNoOut(t, x, 6, d.Out)
	for i, s := range []api.Sess{c, b, e} {
		wantDrop(t, x, s.Key, true, 2-i)
		wantNoOut(t, x, s.Key.Proto, s.Out)
		wantDrop(t, x, s.Key, false, 2-i)
	}
	wantAll(t, x)
}

// P19.1: All, of sessions that were added in whatever order: protocol comes ahead of address, address ahead of port, none by the outside point.
func TestAllInOrder(t *testing.T) {
	r := random(1)
	var want []api.Sess
	list := keys()
	for i, k := range list {
		want = append(want, of(k, point(0x05050505, len(list)-i), i))
	}
	orders := [][]int{make([]int, len(want)), make([]int, len(want))}
	for i := range want {
		orders[0][i], orders[1][i] = i, len(want)-1-i
	}
	for range 20 {
		orders = append(orders, r.Perm(len(want)))
	}
	for _, order := range orders {
		x := sess.New()
		for n, i := range order {
			if err := x.Add(want[i], len(want)); err != api.OK {
				t.Fatal(err)
			}
			if n%30 == 0 {
				wantPut(t, x, want[order[r.IntN(n+1)]], true)
			}
		}
		wantAll(t, x, want...)
		for _, s := range want {
			wantIs(t, x, s)
		}
		rest := slices.Clone(want)
		for range 60 {
			i := r.IntN(len(rest))
			wantDrop(t, x, rest[i].Key, true, len(rest)-1)
			rest = slices.Delete(rest, i, i+1)
		}
		wantAll(t, x, rest...)
	}
}
