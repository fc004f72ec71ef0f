package sess_test

import (
	"fmt"
	"math/rand/v2"
	"slices"
	"strings"
	"testing"

	"lych/api"
	"lych/sess"
)

func random(seed uint64) *rand.Rand { return rand.New(rand.NewPCG(seed, 19)) }

func point(ip uint32, port int) api.Point { return api.Point{Ip: ip, Port: uint16(port)} }

func key(proto byte, ip uint32, port int) api.Key {
	return api.Key{Proto: proto, In: point(ip, port)}
}

// protos, addresses and numbers of ports are some at the bounds of all, and some that are alike in some of their bytes; all rising.
func protos() []byte      { return []byte{0, 1, 6, 17, 255} }
func addresses() []uint32 { return []uint32{0, 1, 256, 0x7fffffff, 0x80000000, 0xffffffff} }
func numbers() []int      { return []int{0, 1, 255, 256, 32768, 65535} }

// keys are those of all of these, in order.
func keys() (list []api.Key) {
	for _, proto := range protos() {
		for _, ip := range addresses() {
			for _, port := range numbers() {
				list = append(list, key(proto, ip, port))
			}
		}
	}
	return list
}

// of tells a session of a key and an outside point, its other fields told by a number.
func of(k api.Key, out api.Point, n int) api.Sess {
	s := api.Sess{Key: k, Out: out, Gen: uint32(n) + 1, State: n % 7, Until: uint32(n)*3 + 5}
	for i := range n % 4 {
		s.Peers = append(s.Peers, point(uint32(n), i+80))
	}
	return s
}

// text tells a session in words, a nil list and an empty one the same.
func text(s api.Sess) string {
	return fmt.Sprintf("%v out %v gen %d peers %v state %d until %d", s.Key, s.Out, s.Gen, s.Peers, s.State, s.Until)
}

// texts tells sessions in words.
func texts(list []api.Sess) string {
	var out []string
	for _, s := range list {
		out = append(out, text(s))
	}
	return strings.Join(out, "\n")
}

// own tells s with a list of its own.
func own(s api.Sess) api.Sess {
	s.Peers = slices.Clone(s.Peers)
	return s
}

// model is sessions, told by plain means: a list in the order in which they came, gone through from its beginning.
type model struct{ list []api.Sess }

// at tells where the session of a key is; -1: nowhere.
func (m *model) at(k api.Key) int {
	for i, s := range m.list {
		if s.Key == k {
			return i
		}
	}
	return -1
}

// out tells where the session of an outside point is; -1: nowhere.
func (m *model) out(proto byte, at api.Point) int {
	for i, s := range m.list {
		if s.Key.Proto == proto && s.Out == at {
			return i
		}
	}
	return -1
}

// session tells the one at a place.
func (m *model) session(i int) (api.Sess, bool) {
	if i < 0 {
		return api.Sess{}, false
	}
	return m.list[i], true
}

func (m *model) add(s api.Sess, most int) api.Errno {
	if m.at(s.Key) >= 0 || m.out(s.Key.Proto, s.Out) >= 0 {
		return 131
	}
	if len(m.list) >= most {
		return 130
	}
	m.list = append(m.list, own(s))
	return 0
}

func (m *model) put(s api.Sess) bool {
	i := m.at(s.Key)
	if i < 0 {
		return false
	}
	l := &m.list[i]
	l.Gen, l.Peers, l.State, l.Until = s.Gen, slices.Clone(s.Peers), s.State, s.Until
	return true
}

func (m *model) drop(k api.Key) bool {
	i := m.at(k)
	if i < 0 {
		return false
	}
	m.list = slices.Delete(m.list, i, i+1)
	return true
}

// all tells them in order: of keys that are written out, each number as wide as its widest.
func (m *model) all() []api.Sess {
	wide := func(s api.Sess) string {
		return fmt.Sprintf("%03d %010d %05d", s.Key.Proto, s.Key.In.Ip, s.Key.In.Port)
	}
	out := slices.Clone(m.list)
	slices.SortFunc(out, func(a, b api.Sess) int { return strings.Compare(wide(a), wide(b)) })
	return out
}

// both is a Table and a model that is told the same; each call holds the one to the other.
type both struct {
	t *testing.T
	x *sess.Table
	m *model
}

func newBoth(t *testing.T) both {
	t.Helper()
	b := both{t, sess.New(), &model{}}
	b.all()
	return b
}

func (b both) find(k api.Key) {
	b.t.Helper()
	got, ok := b.x.Find(k)
	if want, there := b.m.session(b.m.at(k)); text(got) != text(want) || ok != there {
		b.t.Fatalf("Find(%v) = %s, %v; want %s, %v", k, text(got), ok, text(want), there)
	}
}

func (b both) out(proto byte, at api.Point) {
	b.t.Helper()
	got, ok := b.x.Out(proto, at)
	if want, there := b.m.session(b.m.out(proto, at)); text(got) != text(want) || ok != there {
		b.t.Fatalf("Out(%d, %v) = %s, %v; want %s, %v", proto, at, text(got), ok, text(want), there)
	}
}

func (b both) len() {
	b.t.Helper()
	if got, want := b.x.Len(), len(b.m.list); got != want {
		b.t.Fatalf("Len() = %d; want %d", got, want)
	}
}

// all holds all that can be told to the model.
func (b both) all() {
	b.t.Helper()
	b.len()
	if got, want := texts(b.x.All()), texts(b.m.all()); got != want {
		b.t.Fatalf("All() =\n%s\nwant\n%s", got, want)
	}
	for _, s := range b.m.list {
		b.find(s.Key)
		b.out(s.Key.Proto, s.Out)
	}
}

// near holds what can be told of a session's key and outside point, whether it is there or not, to the model.
func (b both) near(s api.Sess) {
	b.t.Helper()
	b.find(s.Key)
	b.out(s.Key.Proto, s.Out)
	b.len()
}

func (b both) add(s api.Sess, most int) api.Errno {
	b.t.Helper()
	err := b.x.Add(s, most)
	if want := b.m.add(s, most); err != want {
		b.t.Fatalf("Add(%s, %d) = %d; want %d", text(s), most, err, want)
	}
	b.near(s)
	return err
}

func (b both) put(s api.Sess) {
	b.t.Helper()
	if got, want := b.x.Put(s), b.m.put(s); got != want {
		b.t.Fatalf("Put(%s) = %v; want %v", text(s), got, want)
	}
	b.near(s)
}

func (b both) drop(s api.Sess) {
	b.t.Helper()
	if got, want := b.x.Drop(s.Key), b.m.drop(s.Key); got != want {
		b.t.Fatalf("Drop(%v) = %v; want %v", s.Key, got, want)
	}
	b.near(s)
}

// wantAdd holds Add to what it answers, and Len behind it.
func wantAdd(t *testing.T, x *sess.Table, s api.Sess, most int, want api.Errno, count int) {
	t.Helper()
	if got := x.Add(s, most); got != want {
		t.Fatalf("Add(%s, %d) = %d; want %d", text(s), most, got, want)
	}
	wantLen(t, x, count)
}

// wantPut holds Put to what it answers, and that Len is as it was.
func wantPut(t *testing.T, x *sess.Table, s api.Sess, want bool) {
	t.Helper()
	count := x.Len()
	if got := x.Put(s); got != want {
		t.Fatalf("Put(%s) = %v; want %v", text(s), got, want)
	}
	wantLen(t, x, count)
}

// wantDrop holds Drop to what it answers, that nothing of that key is there then, and Len behind it.
func wantDrop(t *testing.T, x *sess.Table, k api.Key, want bool, count int) {
	t.Helper()
	if got := x.Drop(k); got != want {
		t.Fatalf("Drop(%v) = %v; want %v", k, got, want)
	}
	wantNoKey(t, x, k)
	wantLen(t, x, count)
}

func wantLen(t *testing.T, x *sess.Table, want int) {
	t.Helper()
	if got := x.Len(); got != want {
		t.Fatalf("Len() = %d; want %d", got, want)
	}
	if got := len(x.All()); got != want {
		t.Fatalf("All() tells %d; want %d", got, want)
	}
}

// wantIs holds Find of s's key, and Out of its outside point, to s.
func wantIs(t *testing.T, x *sess.Table, s api.Sess) {
	t.Helper()
	if got, ok := x.Find(s.Key); !ok || text(got) != text(s) {
		t.Fatalf("Find(%v) = %s, %v; want %s", s.Key, text(got), ok, text(s))
	}
	if got, ok := x.Out(s.Key.Proto, s.Out); !ok || text(got) != text(s) {
		t.Fatalf("Out(%d, %v) = %s, %v; want %s", s.Key.Proto, s.Out, text(got), ok, text(s))
	}
}

// wantNoKey holds Find of a key to nothing.
func wantNoKey(t *testing.T, x *sess.Table, k api.Key) {
	t.Helper()
	if got, ok := x.Find(k); ok || text(got) != text(api.Sess{}) {
		t.Fatalf("Find(%v) = %s, %v; want nothing", k, text(got), ok)
	}
}

// wantNoOut holds Out of an outside point to nothing.
func wantNoOut(t *testing.T, x *sess.Table, proto byte, at api.Point) {
	t.Helper()
	if got, ok := x.Out(proto, at); ok || text(got) != text(api.Sess{}) {
		t.Fatalf("Out(%d, %v) = %s, %v; want nothing", proto, at, text(got), ok)
	}
}

// wantAll holds All to these, in this order.
func wantAll(t *testing.T, x *sess.Table, want ...api.Sess) {
	t.Helper()
	if got := x.All(); texts(got) != texts(want) {
		t.Fatalf("All() =\n%s\nwant\n%s", texts(got), texts(want))
	}
	wantLen(t, x, len(want))
}
