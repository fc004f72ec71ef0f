package xlate

import (
	"lych/api"
	"lych/ports"
	"lych/sess"
	"lych/wheel"
)

// book is a tenant's sessions. As long as one is there its outside point is held, and the wheel knows its end, by a number: keys are none.
type book struct {
	table   *sess.Table
	ports   *ports.Ports
	ends    *wheel.Wheel
	numbers map[api.Key]int
	keys    map[int]api.Key
	last    int            // number that was given to a session
	outside map[uint32]int // how many sessions have an outside address
}

// newBook tells a book at a tick, without sessions.
func newBook(now uint32) *book {
	return &book{
		table:   sess.New(),
		ports:   ports.New(),
		ends:    wheel.New(now),
		numbers: map[api.Key]int{},
		keys:    map[int]api.Key{},
		outside: map[uint32]int{},
	}
}

// add lays a session into the book; its key is free, and its outside point was taken for it.
func (b *book) add(s api.Sess) {
	b.table.Add(s, b.table.Len()+1)
	b.last++
	b.numbers[s.Key], b.keys[b.last] = b.last, s.Key
	b.outside[s.Out.Ip]++
	b.ends.Set(b.last, s.Until)
}

// touch changes a session by a packet with these flags, from inside or from outside, and puts its end off.
func (b *book) touch(s api.Sess, flags byte, in bool) {
	s.State = sess.Step(s.Key.Proto, s.State, flags, in)
	s.Until = b.now() + sess.Life(s.Key.Proto, s.State)
	b.table.Put(s)
	b.ends.Set(b.numbers[s.Key], s.Until)
}

// drop takes a session away; its outside point is free again.
func (b *book) drop(k api.Key) {
	s, _ := b.table.Find(k)
	b.table.Drop(k)
	b.ports.Free(k.Proto, s.Out)
	b.ends.Drop(b.numbers[k])
	delete(b.keys, b.numbers[k])
	delete(b.numbers, k)
	b.outside[s.Out.Ip]--
	if b.outside[s.Out.Ip] == 0 {
		delete(b.outside, s.Out.Ip)
	}
}

// dropGeneration takes away all sessions of a generation.
func (b *book) dropGeneration(number uint32) {
	for _, s := range b.all() {
		if s.Gen == number {
			b.drop(s.Key)
		}
	}
}

// tick goes on by one tick and takes away the sessions that end then.
func (b *book) tick() {
	for _, number := range b.ends.Tick() {
		b.drop(b.keys[number])
	}
}

// now tells the tick.
func (b *book) now() uint32 {
	return b.ends.Now()
}

// all tells all sessions, in order of keys.
func (b *book) all() []api.Sess {
	return b.table.All()
}

// stand tells whether ip is a session's outside address.
func (b *book) stand(ip uint32) bool {
	return b.outside[ip] > 0
}
