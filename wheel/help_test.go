package wheel_test

import (
	"math"
	"math/rand/v2"
	"slices"
	"testing"

	"lych/wheel"
)

// last is the tick behind which no other one comes; most is the greatest number that a tick may be set to.
const (
	last = 1<<31 - 1
	most = 1<<32 - 1
)

// starts are ticks at the bounds of all, and just ahead of and behind the powers of two, where wheels of any usual size turn.
func starts() (list []uint32) {
	for bit := range 32 {
		for near := range 5 {
			list = append(list, 1<<bit+uint32(near)-3)
		}
	}
	list = append(list, 0, 37, 1000000007, 2000000011, last-2, last-1, last, last+1, most-1, most)
	slices.Sort(list)
	return slices.Compact(list)
}

// ids are some at the bounds of all, and some that differ in few bits; in no order.
func ids() []int {
	return []int{7, -1, 0, 1, math.MinInt, math.MaxInt, -7, 1 << 31, -1 << 31, 1<<31 - 1, 1<<32 + 7, 1 << 32, -1<<32 - 1, 1 << 62, 6, 8, math.MinInt + 1, math.MaxInt - 1}
}

func random(seed uint64) *rand.Rand { return rand.New(rand.NewPCG(seed, 18)) }

// model is what is due, told by plain means: all are gone through at each tick.
type model struct {
	now uint32
	at  map[int]uint32
}

func (m *model) tick() (told []int) {
	if m.now >= last {
		return nil
	}
	m.now++
	for id, at := range m.at {
		if at <= m.now {
			told = append(told, id)
		}
	}
	slices.SortFunc(told, func(a, b int) int {
		if m.at[a] < m.at[b] || m.at[a] == m.at[b] && a < b {
			return -1
		}
		return 1
	})
	for _, id := range told {
		delete(m.at, id)
	}
	return told
}

// both is a Wheel and a model that is told the same; each call holds the one to the other.
type both struct {
	t *testing.T
	w *wheel.Wheel
	m *model
}

func newBoth(t *testing.T, now uint32) both {
	t.Helper()
	b := both{t, wheel.New(now), &model{now, map[int]uint32{}}}
	b.same(0)
	return b
}

// same holds Now and Count, and At of an id, to the model.
func (b both) same(id int) {
	b.t.Helper()
	at, there := b.m.at[id]
	wantThere(b.t, b.w, id, at, there)
	wantState(b.t, b.w, b.m.now, len(b.m.at))
}

// all holds At of all that the model has, and of all these ids, to the model.
func (b both) all(list ...int) {
	b.t.Helper()
	for id := range b.m.at {
		b.same(id)
	}
	for _, id := range list {
		b.same(id)
	}
}

func (b both) set(id int, at uint32) {
	b.t.Helper()
	b.w.Set(id, at)
	b.m.at[id] = at
	b.same(id)
}

func (b both) drop(id int) {
	b.t.Helper()
	_, there := b.m.at[id]
	if got := b.w.Drop(id); got != there {
		b.t.Fatalf("at %d: Drop(%d) = %v; want %v", b.m.now, id, got, there)
	}
	delete(b.m.at, id)
	b.same(id)
}

func (b both) tick() []int {
	b.t.Helper()
	want := b.m.tick()
	got := b.w.Tick()
	if !slices.Equal(got, want) {
		b.t.Fatalf("Tick to %d = %.20v; want %.20v", b.m.now, got, want)
	}
	for _, id := range got {
		b.same(id)
	}
	b.same(0)
	return got
}

// ticks goes on by n ticks and tells how many were told.
func (b both) ticks(n int) (told int) {
	b.t.Helper()
	for range n {
		told += len(b.tick())
	}
	return told
}

// wantThere holds At of an id to a tick and to whether it is there.
func wantThere(t *testing.T, w *wheel.Wheel, id int, at uint32, there bool) {
	t.Helper()
	if got, ok := w.At(id); got != at || ok != there {
		t.Fatalf("at %d: At(%d) = %d, %v; want %d, %v", w.Now(), id, got, ok, at, there)
	}
}

// wantState holds Now and Count to these.
func wantState(t *testing.T, w *wheel.Wheel, now uint32, count int) {
	t.Helper()
	if w.Now() != now || w.Count() != count {
		t.Fatalf("Now %d, Count %d; want %d, %d", w.Now(), w.Count(), now, count)
	}
}

// wantTick holds Tick to what it tells, that this is gone then, and Now and Count behind it.
func wantTick(t *testing.T, w *wheel.Wheel, now uint32, count int, want ...int) {
	t.Helper()
	if got := w.Tick(); !slices.Equal(got, want) {
		t.Fatalf("Tick to %d = %v; want %v", now, got, want)
	}
	wantState(t, w, now, count)
	for _, id := range want {
		wantThere(t, w, id, 0, false)
	}
}

// wantDrop holds Drop of an id to whether it was there, that it is gone then, and Count behind it.
func wantDrop(t *testing.T, w *wheel.Wheel, id int, there bool, count int) {
	t.Helper()
	now := w.Now()
	if got := w.Drop(id); got != there {
		t.Fatalf("at %d: Drop(%d) = %v; want %v", now, id, got, there)
	}
	wantThere(t, w, id, 0, false)
	wantState(t, w, now, count)
}

// wantSet sets an id, and holds At and Count to it.
func wantSet(t *testing.T, w *wheel.Wheel, id int, at uint32, count int) {
	t.Helper()
	now := w.Now()
	w.Set(id, at)
	wantThere(t, w, id, at, true)
	wantState(t, w, now, count)
}
