package wheel_test

import (
	"testing"

	"lych/wheel"
)

// P18.1, P18.2: a new one is at the tick that it was told, whatever that is, and nothing is there.
func TestNew(t *testing.T) {
	for _, now := range starts() {
		w := wheel.New(now)
		wantState(t, w, now, 0)
		for _, id := range ids() {
			wantThere(t, w, id, 0, false)
			wantDrop(t, w, id, false, 0)
		}
		next := now
		if now < last {
			next++
		}
		wantTick(t, w, next, 0)
	}
}

// P18.1: any id can be set, to any tick, and is there by itself.
func TestSetOfAnyId(t *testing.T) {
	for _, now := range starts() {
		w := wheel.New(now)
		ats := starts()
		for i, id := range ids() {
			wantSet(t, w, id, ats[i*7%len(ats)], i+1)
		}
		for i, id := range ids() {
			wantThere(t, w, id, ats[i*7%len(ats)], true)
		}
		wantThere(t, w, 2, 0, false)
		wantDrop(t, w, 2, false, len(ids()))
		for i, id := range ids() {
			wantDrop(t, w, id, true, len(ids())-i-1)
			wantDrop(t, w, id, false, len(ids())-i-1)
		}
	}
}

// P18.1: an id can be set to every tick from every tick, and At tells that one, also where it is due already.
func TestSetToAnyTick(t *testing.T) {
	for _, now := range starts() {
		w := wheel.New(now)
		for _, at := range starts() {
			wantSet(t, w, 5, at, 1)
			wantDrop(t, w, 5, true, 0)
		}
		for _, at := range starts() {
			wantSet(t, w, 5, at, 1)
		}
		wantDrop(t, w, 5, true, 0)
		wantDrop(t, w, 5, false, 0)
	}
}

// P18.1: tick 0 is a tick as any other one: At tells it, with whether the id is there.
func TestSetToNought(t *testing.T) {
	w := wheel.New(0)
	wantSet(t, w, 0, 0, 1)
	wantThere(t, w, 1, 0, false)
	wantTick(t, w, 1, 0, 0)
	wantThere(t, w, 0, 0, false)
}

// P18.1: what is due with the next Tick, from each start: what is due then, at now, and before; not what is due one later.
func TestDueNext(t *testing.T) {
	for _, now := range starts() {
		if now >= last {
			continue
		}
		for _, before := range starts() {
			if before > now {
				break
			}
			w := wheel.New(now)
			wantSet(t, w, 4, now+1, 1)
			wantSet(t, w, 3, now+2, 2)
			wantSet(t, w, 2, before, 3)
			wantTick(t, w, now+1, 1, 2, 4)
			wantThere(t, w, 3, now+2, true)
		}
		w := wheel.New(now)
		wantSet(t, w, 4, now+1, 1)
		wantSet(t, w, 2, now, 2)
		wantSet(t, w, 3, most, 3)
		wantTick(t, w, now+1, 1, 2, 4)
		wantThere(t, w, 3, most, true)
	}
}

// P18.1: of an id that is set again the older one is gone: it is told at the newer tick alone.
func TestSetAgain(t *testing.T) {
	const now = 250
	for _, x := range []struct{ first, then uint32 }{
		{260, 255}, {260, 265}, {260, 260}, {251, 252}, {252, 251}, {251, 251}, {260, 250}, {250, 260}, {250, 250}, {3, 260}, {260, 3}, {250, 3}, {3, 250},
		{600, 260}, {260, 600}, {600, 601}, {most, 260}, {last, 600}, {last + 1, 0}, {0, 600},
	} {
		b := newBoth(t, now)
		b.set(1, 260)
		b.set(9, x.first)
		b.set(9, x.then)
		b.set(12, x.first)
		if told := b.ticks(400); told < 2 {
			t.Fatalf("%d, then %d: %d were told", x.first, x.then, told)
		}
		b.all(1, 9, 12)
	}
}

// P18.1: one that is set again and again is there once, and is told once, behind all of its older ticks.
func TestSetAgainAndAgain(t *testing.T) {
	w := wheel.New(0)
	for now := range uint32(3000) {
		wantSet(t, w, 6, now+30, 1)
		wantSet(t, w, 6, now+30, 1)
		wantTick(t, w, now+1, 1)
	}
	for now := range uint32(28) {
		wantTick(t, w, now+3001, 1)
	}
	wantTick(t, w, 3029, 0, 6)
	for now := range uint32(100) {
		wantTick(t, w, now+3030, 0)
	}
}

// P18.1: what is dropped is gone, and isn't told; the others of its tick are.
func TestDrop(t *testing.T) {
	for _, at := range []uint32{0, 99, 100, 101, 102, 115, 116, 356, 1000} {
		for _, id := range ids() {
			b := newBoth(t, 100)
			for _, x := range ids() {
				b.set(x, at)
			}
			b.drop(id)
			b.drop(id)
			b.all(ids()...)
			if told := b.ticks(950); told != len(ids())-1 {
				t.Fatalf("%d were told", told)
			}
			b.drop(id)
		}
	}
}

// P18.1: what was told can't be dropped, but can be set again, and is told again then.
func TestDropOfTold(t *testing.T) {
	w := wheel.New(10)
	for round := range uint32(50) {
		now := 10 + 2*round
		wantSet(t, w, 7, now+2, 1)
		wantTick(t, w, now+1, 1)
		wantTick(t, w, now+2, 0, 7)
		wantDrop(t, w, 7, false, 0)
		wantDrop(t, w, 7, false, 0)
	}
}

// P18.1: what is dropped behind many ticks is gone, wherever it had come to by then; what is set anew is told at its tick.
func TestDropOnTheWay(t *testing.T) {
	for ahead := range uint32(70) {
		for then := range 70 {
			b := newBoth(t, 4080)
			b.set(1, 4080+ahead)
			b.set(2, 4080+ahead)
			b.set(3, 4080+8*ahead)
			b.set(4, 4080+8*ahead)
			b.ticks(then)
			b.drop(1)
			b.drop(3)
			b.set(3, 4080+ahead+30)
			b.ticks(600)
			b.all(1, 2, 3, 4)
		}
	}
}
