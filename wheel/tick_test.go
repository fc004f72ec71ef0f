package wheel_test

import (
	"math"
	"slices"
	"testing"

	"lych/wheel"
)

// The example: told with the second Tick.
func TestExample(t *testing.T) {
	w := wheel.New(0)
	wantSet(t, w, 7, 2, 1)
	wantTick(t, w, 1, 1)
	wantThere(t, w, 7, 2, true)
	wantTick(t, w, 2, 0, 7)
	wantTick(t, w, 3, 0)
}

// P18.2: with nothing due now goes on one by one, and nothing is told.
func TestTickOfNone(t *testing.T) {
	for _, start := range starts() {
		w := wheel.New(start)
		for i := range uint32(40) {
			if start < last {
				wantTick(t, w, min(start+i+1, last), 0)
			} else {
				wantTick(t, w, start, 0)
			}
		}
	}
}

// P18.2, P18.3: one that is set is told at its tick: none before it, none behind it, from each start, at each distance.
func TestTickOfOne(t *testing.T) {
	for _, start := range starts() {
		for _, ahead := range []uint32{1, 2, 3, 14, 15, 16, 17, 18, 31, 32, 33, 63, 64, 65, 127, 128, 129, 255, 256, 257, 300} {
			if start >= last || ahead > last-start {
				continue
			}
			w := wheel.New(start)
			wantSet(t, w, -3, start+ahead, 1)
			for now := start + 1; now < start+ahead; now++ {
				wantTick(t, w, now, 1)
			}
			wantTick(t, w, start+ahead, 0, -3)
			wantTick(t, w, min(start+ahead+1, last), 0)
		}
	}
}

// P18.3: each that is set is told once, at its tick: one at each of many ticks, in no order.
func TestOneAtEachTick(t *testing.T) {
	const many = 70000
	for _, start := range []uint32{0, 1, 65000, 1<<24 - 5, 1<<28 - many/2, last - many} {
		w := wheel.New(start)
		for i := range many {
			id := i * 7919 % many
			w.Set(-id, start+uint32(id)+1)
		}
		wantState(t, w, start, many)
		for i := range many {
			if got := w.Tick(); len(got) != 1 || got[0] != -i {
				t.Fatalf("from %d: the %d. Tick told %v", start, i+1, got)
			}
			if w.Count() != many-i-1 {
				t.Fatalf("from %d: %d are there behind %d Ticks", start, w.Count(), i+1)
			}
		}
	}
}

// P18.2: of one tick they are told in order of their numbers, those below nought first, however they were set.
func TestOrderOfNumbers(t *testing.T) {
	r := random(1)
	for _, ahead := range []uint32{1, 2, 16, 17, 256, 300, 4096, 5000} {
		for range 20 {
			w := wheel.New(250)
			list := ids()
			for range r.IntN(200) {
				list = append(list, r.IntN(1000)-500)
			}
			r.Shuffle(len(list), func(i, j int) { list[i], list[j] = list[j], list[i] })
			for _, id := range list {
				w.Set(id, 250+ahead)
			}
			slices.Sort(list)
			list = slices.Compact(list)
			for i := range ahead - 1 {
				wantTick(t, w, 251+i, len(list))
			}
			wantTick(t, w, 250+ahead, 0, list...)
			wantTick(t, w, 251+ahead, 0)
		}
	}
}

// P18.2: what was due already when it was set is told in order of when, then of its number, and ahead of what is due now.
func TestOrderOfWhen(t *testing.T) {
	w := wheel.New(1000)
	for _, x := range []struct {
		id int
		at uint32
	}{{5, 1001}, {4, 1000}, {9, 0}, {3, 0}, {-3, 1001}, {8, 999}, {-1, 1000}, {7, 16}, {6, 1}, {-2, 1}, {2, 999}, {1, 1002}, {math.MaxInt, 0}, {math.MinInt, 1001}, {math.MaxInt - 1, 999}} {
		w.Set(x.id, x.at)
	}
	wantState(t, w, 1000, 15)
	wantTick(t, w, 1001, 1, 3, 9, math.MaxInt, -2, 6, 7, 2, 8, math.MaxInt-1, -1, 4, math.MinInt, -3, 5)
	wantTick(t, w, 1002, 0, 1)
}

// P18.2: what was set to one tick at many others, from far and from near, is told together.
func TestManyWaysToOneTick(t *testing.T) {
	const at = 1<<16 + 1<<8 + 3
	b := newBoth(t, 0)
	for now := range uint32(at) {
		switch {
		case now%1021 == 0:
			b.set(int(now*7919%10007), at)
		case now%2039 == 0:
			b.set(int(now*7919%10007), now+uint32(now%500))
		}
		b.tick()
	}
	if b.m.now != at || len(b.m.at) != 0 {
		t.Fatal(b.m.now, len(b.m.at))
	}
	b.ticks(1000)
}

// P18.2: 2^31 - 1 is the last tick: what is due there is told; what is due later never is, and stays.
func TestLastTick(t *testing.T) {
	w := wheel.New(last - 2)
	wantSet(t, w, 1, last-1, 1)
	wantSet(t, w, 2, last, 2)
	wantSet(t, w, 3, last+1, 3)
	wantSet(t, w, 4, most, 4)
	wantSet(t, w, 5, last-2, 5)
	wantTick(t, w, last-1, 3, 5, 1)
	wantSet(t, w, 6, 0, 4)
	wantSet(t, w, 7, last-1, 5)
	wantSet(t, w, -8, last, 6)
	wantTick(t, w, last, 2, 6, 7, -8, 2)
	for range 100 {
		wantTick(t, w, last, 2)
	}
	wantThere(t, w, 3, last+1, true)
	wantThere(t, w, 4, most, true)
	wantThere(t, w, 2, 0, false)
}

// P18.2: from 2^31 - 1 on now stays, and nothing is due; it can be set, asked and dropped.
func TestBehindLastTick(t *testing.T) {
	for _, now := range []uint32{last, last + 1, last + 2, 3000000000, most - 1, most} {
		w := wheel.New(now)
		for i, at := range starts() {
			wantSet(t, w, -i, at, i+1)
		}
		for range 50 {
			wantTick(t, w, now, len(starts()))
		}
		for i, at := range starts() {
			wantThere(t, w, -i, at, true)
			wantSet(t, w, -i, most-at, len(starts())-i)
			wantTick(t, w, now, len(starts())-i)
			wantDrop(t, w, -i, true, len(starts())-i-1)
			wantDrop(t, w, -i, false, len(starts())-i-1)
		}
		wantTick(t, w, now, 0)
	}
}

// P18.2: what is left where the last tick is can be moved and dropped as ever.
func TestAtLastTickFromBefore(t *testing.T) {
	b := newBoth(t, last-300)
	for i, at := range starts() {
		b.set(i, at)
	}
	b.ticks(299)
	for i := range 5 {
		b.set(1000+i, uint32(last+i-2))
	}
	b.ticks(5)
	b.all()
	for i, at := range starts() {
		b.set(i, most-at)
		b.tick()
	}
	b.all()
	for i := range starts() {
		b.drop(i)
		b.drop(i)
	}
	b.ticks(5)
	if b.m.now != last || len(b.m.at) != 2 {
		t.Fatal(b.m.now, b.m.at)
	}
}

// P18.3: far off ones are told at their ticks though many others come and go on the way.
func TestFarOff(t *testing.T) {
	r := random(2)
	b := newBoth(t, 1<<20-40000)
	far := 0
	for id := range 200 {
		b.set(id, 1<<20-40000+uint32(r.IntN(80000)))
		far++
	}
	for range 80000 {
		b.set(1000+r.IntN(20), b.m.now+uint32(r.IntN(3)))
		for _, id := range b.tick() {
			if id < 1000 {
				far--
			}
		}
	}
	if far != 0 {
		t.Fatalf("%d weren't told", far)
	}
}

// P18.3: many at once, over many ticks: all are told, once.
func TestMany(t *testing.T) {
	r := random(3)
	for _, spread := range []int{1, 10, 300, 5000, 70000} {
		b := newBoth(t, uint32(r.IntN(1<<30)))
		start := b.m.now
		const many = 5000
		for id := range many {
			b.set(id-many/2, start+uint32(r.IntN(spread)))
		}
		told := map[int]int{}
		for range spread {
			for _, id := range b.w.Tick() {
				told[id]++
			}
		}
		if len(told) != many || b.w.Count() != 0 {
			t.Fatalf("%d of %d were told, %d are left", len(told), many, b.w.Count())
		}
		for id, n := range told {
			if n != 1 {
				t.Fatalf("%d was told %d times", id, n)
			}
		}
	}
}
