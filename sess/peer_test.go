package sess_test

import (
	"math"
	"slices"
	"testing"

	"lych/api"
	"lych/sess"
)

// points are n, all unlike, two at each address.
func points(n int) (list []api.Point) {
	for i := range n {
		list = append(list, point(uint32(i/2)+1, 80+i))
	}
	return list
}

// modelPeer tells Peer from the end on: p, then those ahead of it that aren't p, until there are eight.
func modelPeer(l []api.Point, p api.Point) []api.Point {
	out := []api.Point{p}
	for i := len(l) - 1; i >= 0 && len(out) < 8; i-- {
		if l[i] != p {
			out = append(out, l[i])
		}
	}
	slices.Reverse(out)
	return out
}

// wantPeer holds Peer to these, that l and the room behind it are as they were, and that what is answered shares none with l.
func wantPeer(t *testing.T, l []api.Point, p api.Point, want []api.Point) {
	t.Helper()
	whole := make([]api.Point, len(l)+10)
	for i := range whole {
		whole[i] = point(0x09090909, i)
	}
	copy(whole[1:], l)
	before := slices.Clone(whole)
	got := sess.Peer(whole[1:1+len(l)], p)
	if !slices.Equal(got, want) {
		t.Fatalf("Peer(%v, %v) = %v; want %v", l, p, got, want)
	}
	if !slices.Equal(whole, before) {
		t.Fatalf("Peer(%v, %v) changed what it was handed: %v; was %v", l, p, whole, before)
	}
	clear(whole)
	if !slices.Equal(got, want) {
		t.Fatalf("Peer(%v, %v) shares its answer", l, p)
	}
	clear(got[:cap(got)])
	if slices.ContainsFunc(whole, func(p api.Point) bool { return p != api.Point{} }) {
		t.Fatalf("Peer(%v, %v) shares its answer's room", l, p)
	}
}

// P19.4: Peer of one that isn't there goes behind all; from the ninth on the oldest one goes.
func TestPeerNew(t *testing.T) {
	p := point(7, 7)
	wantPeer(t, nil, p, []api.Point{p})
	wantPeer(t, []api.Point{}, p, []api.Point{p})
	wantPeer(t, nil, api.Point{}, []api.Point{{}})
	list := points(300)
	for n := range 8 {
		wantPeer(t, list[:n], p, append(slices.Clone(list[:n]), p))
	}
	for n := 8; n <= 300; n++ {
		wantPeer(t, list[:n], p, append(slices.Clone(list[n-7:n]), p))
	}
}

// P19.4: Peer of one that is there, at each place, moves it to the end: none is lost of up to eight.
func TestPeerThere(t *testing.T) {
	for n := 1; n <= 30; n++ {
		list := points(n)
		for i, p := range list {
			want := append(slices.Delete(slices.Clone(list), i, i+1), p)
			wantPeer(t, list, p, want[max(0, n-8):])
		}
	}
}

// P19.4: one that is there more than once is there once then; others that are stay so.
func TestPeerTwice(t *testing.T) {
	a, b, p := point(1, 1), point(2, 2), point(3, 3)
	wantPeer(t, []api.Point{p, p}, p, []api.Point{p})
	wantPeer(t, []api.Point{p, a, p, b, p}, p, []api.Point{a, b, p})
	wantPeer(t, []api.Point{p, a, a, b, p, b, a, p}, p, []api.Point{a, a, b, b, a, p})
	wantPeer(t, []api.Point{a, a}, p, []api.Point{a, a, p})
	wantPeer(t, slices.Repeat([]api.Point{p}, 50), p, []api.Point{p})
	wantPeer(t, slices.Repeat([]api.Point{a, p}, 50), p, []api.Point{a, a, a, a, a, a, a, p})
	wantPeer(t, slices.Concat([]api.Point{a, b}, slices.Repeat([]api.Point{p}, 50)), p, []api.Point{a, b, p})
	wantPeer(t, make([]api.Point, 20), p, append(make([]api.Point, 7), p))
	wantPeer(t, make([]api.Point, 20), api.Point{}, make([]api.Point, 1))
}

// P19.4: of p's address with another port, and of its port at another address, is another one.
func TestPeerLikeIt(t *testing.T) {
	p := point(0x05050505, 80)
	var list []api.Point
	for bit := range 4 {
		list = append(list, point(p.Ip^1<<(9*bit), 80), point(p.Ip, 80^1<<(5*bit)))
	}
	for i := range list {
		wantPeer(t, list[i:], p, append(slices.Clone(list[max(i, 1):]), p))
	}
}

// P19.4: any lists, held to a model.
func TestPeerAny(t *testing.T) {
	r := random(2)
	for range 20000 {
		var list []api.Point
		for range r.IntN(24) {
			list = append(list, point(uint32(r.IntN(3)), r.IntN(4)))
		}
		p := point(uint32(r.IntN(3)), r.IntN(4))
		wantPeer(t, list, p, modelPeer(list, p))
	}
}

// P19.4: one peer behind another: the last eight that are unlike, the latest one last.
func TestPeerAgain(t *testing.T) {
	r := random(3)
	for _, kinds := range []int{1, 2, 7, 8, 9, 10, 40} {
		var list, said []api.Point
		for range 500 {
			p := point(9, r.IntN(kinds))
			said = append(said, p)
			list = sess.Peer(list, p)
			var want []api.Point
			for i := len(said) - 1; i >= 0 && len(want) < api.MaxPeers; i-- {
				if !slices.Contains(want, said[i]) {
					want = append(want, said[i])
				}
			}
			slices.Reverse(want)
			if !slices.Equal(list, want) {
				t.Fatalf("of %d kinds: %v; want %v", kinds, list, want)
			}
		}
	}
}

// wantAllows holds Allows to an answer, and that l is as it was.
func wantAllows(t *testing.T, filter int, l []api.Point, p api.Point, want bool) {
	t.Helper()
	before := slices.Clone(l)
	if got := sess.Allows(filter, l, p); got != want {
		t.Fatalf("Allows(%d, %v, %v) = %v; want %v", filter, l, p, got, want)
	}
	if !slices.Equal(l, before) {
		t.Fatalf("Allows changed %v to %v", before, l)
	}
}

// noFilters are numbers of no filter.
func noFilters() []int {
	return []int{3, 4, 5, 7, -1, -2, 255, 256, 257, 258, 1<<16 + 1, 1<<16 + 2, 1<<32 + 1, 1<<32 + 2, math.MaxInt, math.MinInt, math.MinInt + 1, math.MinInt + 2}
}

// P19.4: Allows of each filter, with lists of none, of the same address with another port, of the same point, of others.
func TestAllows(t *testing.T) {
	p := point(0x08080808, 53)
	other := []api.Point{point(0x08080809, 53), point(0x08080808^1<<31, 53), {}, point(53, 2056)}
	near := append(slices.Clone(other), point(0x08080808, 54))
	same := append(slices.Clone(other), p)
	for _, row := range []struct {
		list       []api.Point
		addr, port bool
	}{
		{nil, false, false},
		{[]api.Point{}, false, false},
		{other, false, false},
		{near, true, false},
		{same, true, true},
		{append(slices.Clone(near), p), true, true},
		{[]api.Point{point(0x08080808, 0)}, true, false},
		{[]api.Point{point(0x08080808, 53^1<<15)}, true, false},
		{[]api.Point{p}, true, true},
		{[]api.Point{p, p}, true, true},
		{append(make([]api.Point, 300), p), true, true},
		{append(make([]api.Point, 300), point(0x08080808, 1)), true, false},
		{make([]api.Point, 300), false, false},
	} {
		for range 2 {
			wantAllows(t, api.FilterAny, row.list, p, true)
			wantAllows(t, api.FilterAddr, row.list, p, row.addr)
			wantAllows(t, api.FilterPort, row.list, p, row.port)
			for _, filter := range noFilters() {
				wantAllows(t, filter, row.list, p, true)
			}
			row.list = slices.Clone(row.list)
			slices.Reverse(row.list)
		}
	}
}

// P19.4: the zero point is a point as any other one.
func TestAllowsZero(t *testing.T) {
	for filter := api.FilterAny; filter <= api.FilterPort; filter++ {
		wantAllows(t, filter, []api.Point{{}}, api.Point{}, true)
		wantAllows(t, filter, nil, api.Point{}, filter == api.FilterAny)
		wantAllows(t, filter, []api.Point{point(0, 1)}, api.Point{}, filter != api.FilterPort)
		wantAllows(t, filter, []api.Point{point(1, 0)}, api.Point{}, filter == api.FilterAny)
	}
}

// P19.4: who was spoken to is let in by each filter, until eight others have come.
func TestAllowsPeers(t *testing.T) {
	list := points(30)
	var l []api.Point
	for i, p := range list {
		l = sess.Peer(l, p)
		for n, q := range list {
			wantAllows(t, api.FilterPort, l, q, n <= i && n > i-8)
		}
	}
}
