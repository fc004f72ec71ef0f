package xlate_test

import (
	"bytes"
	"slices"
	"sync"
	"testing"

	"lych/api"
	"lych/xlate"
)

// spoil writes over a list, and over the room behind it.
func spoil[T any](list []T, with T) {
	list = list[:cap(list)]
	for i := range list {
		list[i] = with
	}
}

// roomy is x with lists that have room behind them, and a check that they are as they were.
func roomy(x api.Tenant) (api.Tenant, func(t *testing.T), func()) {
	pool := append(slices.Clone(x.Pool), 91, 92, 93)
	statics := append(slices.Clone(x.Statics), api.Pair{A: 94, B: 95}, api.Pair{A: 96, B: 97})
	twices := append(slices.Clone(x.Twices), api.Pair{A: 98, B: 99}, api.Pair{A: far, B: seen})
	before := [][]api.Pair{slices.Clone(statics), slices.Clone(twices)}
	addresses := slices.Clone(pool)
	x.Pool, x.Statics, x.Twices = pool[:len(x.Pool)], statics[:len(x.Statics)], twices[:len(x.Twices)]
	same := func(t *testing.T) {
		t.Helper()
		if !slices.Equal(pool, addresses) || !slices.Equal(statics, before[0]) || !slices.Equal(twices, before[1]) {
			t.Fatalf("changed: %v, %v, %v", pool, statics, twices)
		}
	}
	return x, same, func() {
		spoil(pool, 6)
		spoil(statics, api.Pair{A: host, B: home})
		spoil(twices, api.Pair{A: far, B: near})
	}
}

// wantTenant holds a unit, new but for one packet of each of these, to the settings tenant(), whatever the number of their generation is.
func wantTenant(t *testing.T, u *xlate.Unit) {
	t.Helper()
	wantOut(t, u, datagram(point(other, 4000), point(seen, 53)), point(home, 1024), point(far, 53))
	wantIn(t, u, datagram(point(far, 9), point(home, 1024)), point(seen, 9), point(other, 4000))
	wantOut(t, u, datagram(point(server, 80), point(near, 53)), point(public, 80), point(near, 53))
	wantIn(t, u, datagram(point(far, 9), point(public, 80)), point(seen, 9), point(server, 80))
	wantHolds(t, u, true, home, second, public)
	wantHolds(t, u, false, 6, 91, 95, 97)
}

// DOC.md, what holds everywhere, 3: what New and Put are handed is not changed, nor the room behind it, and is the caller's to change.
func TestHandedInIsTheCallers(t *testing.T) {
	x, same, change := roomy(tenant())
	u := xlate.New(x, 0)
	wantTenant(t, u)
	same(t)
	change()
	wantTenant(t, u)

	x, same, change = roomy(tenant())
	u = xlate.New(elsewhere(), 0)
	wantPut(t, u, x, 5, api.OK, 0, 1)
	wantTenant(t, u)
	same(t)
	change()
	wantTenant(t, u)
	u.Put(elsewhere(), 9)
	u.Put(elsewhere(), 9)
	x, same, change = roomy(pooled(5))
	wantPut(t, u, x, 9, api.ErrBusy, 0, 1, 2, 3)
	same(t)
	change()
	ticks(u, 5)
	wantGens(t, u, 1, 2, 3)
	wantIn(t, u, datagram(point(far, 9), point(home, 1024)), point(seen, 9), point(other, 4000))
}

// DOC.md, what holds everywhere, 3: two units that are handed the same settings, or the settings twice, have nothing in common.
func TestUnitsAreApart(t *testing.T) {
	x := tenant()
	u, v := xlate.New(x, 0), xlate.New(x, 7)
	opened(t, u, datagram(point(host, 4000), point(far, 53)), point(home, 1024))
	u.Tick()
	wantPut(t, u, pooled(1), 1, api.OK, 0, 1)
	wantNow(t, v, 7)
	wantGens(t, v, 0)
	wantSessions(t, v)
	wantHolds(t, v, false, away+1)
	wantNot(t, v.In, datagram(point(far, 53), point(home, 1024)), api.CountNone)
	opened(t, v, datagram(point(other, 4000), point(far, 53)), point(home, 1024))
	wantIn(t, u, datagram(point(far, 53), point(home, 1024)), point(seen, 53), point(host, 4000))
}

// DOC.md, what holds everywhere, 3: a packet is not changed, nor the room behind it, and is the caller's; so is what goes on.
func TestPacketsAreTheCallers(t *testing.T) {
	r := random(31)
	b := newBoth(t, randomTenant(r), 0)
	for i := range 3000 {
		x, f := fromInside(r, b.m), b.u.Out
		if i%2 == 0 {
			x, f = fromOutside(r, b.m), b.u.In
		}
		row := append(x.bytes(), bytes.Repeat([]byte{0x5a}, 64)...)
		before := bytes.Clone(row)
		sessions := text(b.u.Sessions())
		n, out := f(row[:len(row)-64])
		if !bytes.Equal(row, before) {
			t.Fatalf("% x; was\n% x", row, before)
		}
		after := text(b.u.Sessions())
		told := bytes.Clone(out)
		spoil(row, 0x66)
		if !bytes.Equal(out, told) || text(b.u.Sessions()) != after {
			t.Fatalf("changed with its packet: %d, % x; was % x", n, out, told)
		}
		spoil(out, 0x77)
		if text(b.u.Sessions()) != after || bytes.Contains(row, []byte{0x77}) {
			t.Fatalf("changed with its answer: %s; was %s", text(b.u.Sessions()), sessions)
		}
		b.m.list = nil
		for _, s := range b.u.Sessions() {
			b.m.list = append(b.m.list, &s)
		}
	}
}

// DOC.md, what holds everywhere, 3: what Sessions and Gens answer is the caller's to change, and stays as it was told.
func TestAnsweredIsTheCallers(t *testing.T) {
	u := xlate.New(tenant(), 0)
	a := datagram(point(host, 4000), point(far, 53))
	opened(t, u, a, point(home, 1024))
	opened(t, u, segment(point(host, 4000), point(far, 53), 2), point(home, 1024))
	opened(t, u, a.to(point(near, 53)), point(home, 1024))
	wantPut(t, u, tenant(), 5, api.OK, 0, 1)
	before := text(u.Sessions())
	first, other := u.Sessions(), u.Sessions()
	gens := u.Gens()
	for i := range first {
		spoil(first[i].Peers, point(6, 6))
		if text(first[i+1:]) != text(other[i+1:]) {
			t.Fatalf("two lists share: %s", text(first))
		}
	}
	spoil(first, api.Sess{Gen: 66})
	spoil(gens, 77)
	if text(other) != before || text(u.Sessions()) != before {
		t.Fatalf("%s; was\n%s", text(u.Sessions()), before)
	}
	wantGens(t, u, 0, 1)
	gens = u.Gens()
	u.Put(tenant(), 1)
	u.In(datagram(point(near, 9), point(home, 1024)).bytes())
	ticks(u, 40)
	if text(other) != before || !slices.Equal(gens, []uint32{0, 1}) {
		t.Fatalf("%s, %v; was\n%s", text(other), gens, before)
	}
}

// DOC.md, what holds everywhere, 1: any bytes, spoilt packets of all kinds among them, make no call panic; what goes on is a packet, and beside another counter there is none.
func TestAnyBytes(t *testing.T) {
	r := random(41)
	b := newBoth(t, randomTenant(r), 0)
	for i := range 100000 {
		x, f := fromInside(r, b.m), b.u.Out
		if i%2 == 0 {
			x, f = fromOutside(r, b.m), b.u.In
		}
		row := x.bytes()
		for range r.IntN(4) {
			row[r.IntN(len(row))] = byte(r.Uint32())
		}
		row = row[:len(row)-r.IntN(3)*r.IntN(len(row)/2)]
		// With right checksums more of what is wrong is looked into.
		if n := 4 * int(row[0]&15); r.IntN(2) == 0 && n >= 20 && n+8 <= len(row) {
			copy(row[2:], word(uint16(len(row))))
			row = join(sealed(nil, row[:n], 10), sealed(nil, row[n:], 2))
		}
		wantSound(t, row, f)
		if i%200 == 0 {
			b.u.Tick()
			b.u.Put(randomTenant(r), uint32(r.IntN(9)))
			b.m.list = nil
			for _, s := range b.u.Sessions() {
				b.m.list = append(b.m.list, &s)
			}
		}
	}
	for n := range 100 {
		for _, row := range [][]byte{make([]byte, n), bytes.Repeat([]byte{0xff}, n), randomBytes(r, n)} {
			wantNoBytes(t, b.u.Out, row, api.CountForm)
			wantNoBytes(t, b.u.In, row, api.CountForm)
		}
	}
	wantNoBytes(t, b.u.Out, nil, api.CountForm)
	wantNoBytes(t, b.u.In, nil, api.CountForm)
}

// wantSound holds a call of any bytes to what may be of any.
func wantSound(t *testing.T, row []byte, f call) {
	t.Helper()
	before := bytes.Clone(row)
	n, out := f(row)
	goesOn := n == api.CountOut || n == api.CountIn || n == api.CountHair
	if !bytes.Equal(row, before) || n < 0 || n > api.CountFilter || goesOn != (len(out) > 0) || goesOn && out[8] != row[8]-1 {
		t.Fatalf("% x: %d, % x; was % x", row, n, out, before)
	}
}

// DOC.md, what holds everywhere, 1: the longest packets go on too, and those without a body.
func TestLongAndShort(t *testing.T) {
	u := xlate.New(tenant(), 0)
	for kind := range kinds {
		for _, n := range []int{0, 1, 1400, 65000} {
			x := spoken(kind, point(host, 4000), point(near, 53))
			x.body = bytes.Repeat([]byte{7}, n)
			if n == 65000 {
				x.body = bytes.Repeat([]byte{7}, 65535-len(x.bytes())+n)
			}
			src, dst := id(x, point(home, 1024), point(near, 53), 1024)
			wantOut(t, u, x, src, dst)
		}
	}
}

// chapter 21, The face: of settings that may not be nothing is promised but that calls end, and don't panic.
func TestWrongSettings(t *testing.T) {
	pair := api.Pair{A: server, B: public}
	for i, change := range []func(*api.Tenant){
		func(x *api.Tenant) { *x = api.Tenant{} },
		func(x *api.Tenant) { x.Pool = nil },
		func(x *api.Tenant) { x.Pool = []uint32{home, home, 0, public, host, far} },
		func(x *api.Tenant) { x.Lo, x.Hi = 1027, 1024 },
		func(x *api.Tenant) { x.Lo, x.Hi = 0, 65535 },
		func(x *api.Tenant) { x.Sess = -1 },
		func(x *api.Tenant) { x.Sess = 1 << 40 },
		func(x *api.Tenant) { x.Filter = 77 },
		func(x *api.Tenant) { x.Filter = -1 },
		func(x *api.Tenant) { x.Statics = []api.Pair{pair, pair, {A: host, B: host}, {}} },
		func(x *api.Tenant) {
			x.Twices = []api.Pair{{A: seen, B: far}, {A: seen, B: near}, {A: near, B: far}, {A: home, B: home}}
		},
	} {
		r := random(uint64(i))
		x := tenant()
		change(&x)
		u, m := xlate.New(x, 0), newModel(tenant(), 0)
		for n := range 2000 {
			wantEnds(u, fromInside(r, m).bytes(), fromOutside(r, m).bytes())
			switch n % 50 {
			case 7:
				u.Tick()
			case 8:
				u.Put(tenant(), uint32(n%3))
			case 9:
				u.Put(x, uint32(n%4))
			}
		}
	}
}

func wantEnds(u *xlate.Unit, out, in []byte) {
	u.Out(out)
	u.In(in)
	u.Holds(home)
	u.Sessions()
}

// DOC.md, what holds everywhere, 8: the same calls give the same answers, whatever is asked of others at the same time.
func TestSameAgain(t *testing.T) {
	play := func() string {
		r := random(51)
		m := newModel(randomTenant(r), 0)
		u := xlate.New(m.newest().t, 0)
		var all bytes.Buffer
		for i := range 3000 {
			n, b := u.Out(fromInside(r, m).bytes())
			k, c := u.In(fromOutside(r, m).bytes())
			all.Write(b)
			all.Write(c)
			all.Write([]byte{byte(n), byte(k)})
			if i%20 == 0 {
				u.Tick()
				all.WriteString(text(u.Sessions()))
				m.list = nil
				for _, s := range u.Sessions() {
					m.list = append(m.list, &s)
				}
			}
			if i%200 == 0 {
				u.Put(randomTenant(r), uint32(r.IntN(50)))
			}
		}
		return all.String()
	}
	want := play()
	var all sync.WaitGroup
	for range 8 {
		all.Go(func() {
			if play() != want {
				t.Error("other answers")
			}
		})
	}
	all.Wait()
}

// FuzzBytes tells a unit any bytes, of both sides.
func FuzzBytes(f *testing.F) {
	a, p, z := point(host, 4000), point(home, 1024), point(far, 53)
	for kind := range kinds {
		f.Add(spoken(kind, a, z).bytes())
		f.Add(spoken(kind, z, p).bytes())
		f.Add(failure(host, far, spoken(kind, z, a)).bytes())
		f.Add(failure(far, home, spoken(kind, p, z)).bytes())
	}
	f.Fuzz(func(t *testing.T, b []byte) {
		u := xlate.New(tenant(), 0)
		for _, kind := range []int{isDatagram, isSegment, isAsking} {
			opened(t, u, spoken(kind, a, z), p)
		}
		for range 2 {
			wantSound(t, b, u.In)
			wantSound(t, b, u.Out)
			wantUnlike(t, u)
			u.Tick()
		}
	})
}

// FuzzScript makes calls by a seed, and holds them to the model.
func FuzzScript(f *testing.F) {
	f.Add(uint64(1000))
	f.Fuzz(func(t *testing.T, seed uint64) {
		r := random(seed)
		var told [2][api.Counters]int
		script(newBoth(t, randomTenant(r), one[uint32](r, 0, last-20)), r, 300, &told)
	})
}
