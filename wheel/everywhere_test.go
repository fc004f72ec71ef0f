package wheel_test

import (
	"encoding/binary"
	"math/rand/v2"
	"slices"
	"sync"
	"testing"

	"lych/wheel"
)

// DOC.md, what holds everywhere, 3: what Tick tells is the caller's to change: it is new each time, and nothing of it is kept.
func TestToldIsTheCallers(t *testing.T) {
	w := wheel.New(0)
	var lists [][]int
	for now := range 100 {
		for id := range 5 {
			w.Set(id+now, uint32(now+1))
		}
		w.Set(1000+now, uint32(now+2))
		told := w.Tick()
		want := []int{now, now + 1, now + 2, now + 3, now + 4}
		if now > 0 {
			want = append(want, 999+now)
		}
		if !slices.Equal(told, want) {
			t.Fatalf("%v; want %v", told, want)
		}
		wantThere(t, w, 1000+now, uint32(now+2), true)
		wantState(t, w, uint32(now+1), 1)
		whole := told[:cap(told)]
		for i := range whole {
			whole[i] = -now
		}
		lists = append(lists, whole)
	}
	for now, list := range lists {
		for _, id := range list {
			if id != -now {
				t.Fatalf("the list of %d was changed: %v", now, list)
			}
		}
	}
}

// DOC.md, what holds everywhere, 8: two Wheels have nothing in common.
func TestWheelsAreApart(t *testing.T) {
	w, other := wheel.New(5), wheel.New(5)
	wantSet(t, w, 1, 7, 1)
	wantState(t, other, 5, 0)
	wantThere(t, other, 1, 0, false)
	wantDrop(t, other, 1, false, 0)
	wantSet(t, other, 1, 6, 1)
	wantSet(t, other, 2, 7, 2)
	wantThere(t, w, 1, 7, true)
	wantTick(t, other, 6, 1, 1)
	wantState(t, w, 5, 1)
	wantTick(t, w, 6, 1)
	wantTick(t, w, 7, 0, 1)
	wantState(t, other, 6, 1)
	wantTick(t, other, 7, 0, 2)
}

// DOC.md, what holds everywhere, 8: asking changes nothing.
func TestAskingChangesNothing(t *testing.T) {
	w := wheel.New(5)
	w.Set(1, 7)
	w.Set(2, 6)
	for range 3 {
		for _, id := range ids() {
			w.At(id + 3)
		}
		wantState(t, w, 5, 2)
		wantThere(t, w, 1, 7, true)
		wantThere(t, w, 2, 6, true)
		wantThere(t, w, 3, 0, false)
	}
	wantTick(t, w, 6, 1, 2)
	wantTick(t, w, 7, 0, 1)
}

// step does one thing at random: most of it at small distances, some of it far off.
func step(b both, r *rand.Rand) {
	b.t.Helper()
	id := r.IntN(40) - 15
	switch r.IntN(8) {
	case 0, 1:
		b.set(id, b.m.now+uint32(r.IntN(40)))
	case 2:
		b.set(id, b.m.now+uint32(r.IntN(1<<(4*r.IntN(5)))))
	case 3:
		b.set(id, b.m.now-min(b.m.now, uint32(r.IntN(40))))
	case 4:
		b.set(id, starts()[r.IntN(len(starts()))])
	case 5:
		b.drop(id)
	default:
		b.tick()
	}
}

// P18.1, P18.2, P18.3: any calls in any order, held to a model that goes through all of them one by one.
func TestAnyCalls(t *testing.T) {
	r := random(4)
	for _, start := range starts() {
		b := newBoth(t, start)
		for range 1500 {
			step(b, r)
		}
		b.ticks(500)
		b.all(ids()...)
		for id := range 40 {
			b.drop(id - 15)
		}
	}
}

// P18.3: many calls between ticks, many ticks between calls, over all of a wheel's turns.
func TestManyCalls(t *testing.T) {
	r := random(5)
	b := newBoth(t, 0)
	for range 2000 {
		for range r.IntN(30) {
			id := r.IntN(300)
			if r.IntN(4) == 0 {
				b.drop(id)
			} else {
				b.set(id, b.m.now+uint32(r.IntN(2000)))
			}
		}
		b.ticks(r.IntN(100))
	}
	b.all()
	b.ticks(2000)
	if len(b.m.at) != 0 {
		t.Fatal(b.m.at)
	}
}

// DOC.md, what holds everywhere, 1 and 10: very many far off ones, set again and again, hold up neither ticks nor calls.
func TestVeryMany(t *testing.T) {
	const many, rounds = 200000, 3
	w := wheel.New(1<<28 - 1000)
	for round := range uint32(rounds) {
		for id := range many {
			w.Set(id, 1<<29+round)
		}
	}
	wantState(t, w, 1<<28-1000, many)
	for range many {
		if got := w.Tick(); got != nil {
			t.Fatalf("%.20v", got)
		}
	}
	for id := range many {
		w.Set(id, w.Now()+10+uint32(id%4))
	}
	told := 0
	for range 20 {
		list := w.Tick()
		told += len(list)
		if !slices.IsSorted(list) {
			t.Fatalf("not in order: %.20v", list)
		}
	}
	if told != many {
		t.Fatalf("%d were told", told)
	}
	wantState(t, w, 1<<28-1000+many+20, 0)
}

// DOC.md, what holds everywhere, 8: what is answered hangs on nothing that is asked of others at the same time, nor on a map's order.
func TestSameAgain(t *testing.T) {
	play := func() (list []int) {
		r := random(6)
		w := wheel.New(240)
		for range 5000 {
			for range r.IntN(20) {
				w.Set(r.IntN(500), w.Now()-5+uint32(r.IntN(300)))
			}
			list = append(list, w.Tick()...)
		}
		return list
	}
	want := play()
	var all sync.WaitGroup
	for range 8 {
		all.Go(func() {
			if !slices.Equal(play(), want) {
				t.Error("other answers")
			}
		})
	}
	all.Wait()
}

// FuzzWheel makes calls of any bytes and holds them to the model.
func FuzzWheel(f *testing.F) {
	f.Add([]byte{})
	f.Add([]byte("\x00\x00\x00\x00\x00\x07\x00\x00\x00\x02\x02\x00\x00\x00\x00\x02"))
	f.Add([]byte("\x7f\xff\xff\xfe\x00\x01\x7f\xff\xff\xff\x00\x02\x80\x00\x00\x00\x02\x00\x00\x00\x00\x05"))
	f.Add([]byte("\xff\xff\xff\xff\x00\x01\x00\x00\x00\x00\x00\xff\xff\xff\xff\xff\x02\x00\x00\x00\x00\x05\x01\x01\x00\x00\x00\x00"))
	f.Fuzz(func(t *testing.T, bytes []byte) {
		if len(bytes) < 4 {
			return
		}
		b := newBoth(t, binary.BigEndian.Uint32(bytes))
		for row := range slices.Chunk(bytes[4:], 6) {
			if len(row) < 6 {
				break
			}
			id := int(int8(row[1]))
			at := binary.BigEndian.Uint32(row[2:])
			switch row[0] % 4 {
			case 0:
				b.set(id, at)
			case 1:
				b.drop(id)
			case 2:
				b.ticks(int(at % 300))
			case 3:
				b.set(id, b.m.now+at%5000)
			}
		}
		b.all()
	})
}
