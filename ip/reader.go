package ip

import (
	"lych/api"
	"lych/sum"
)

// failure is what a reader panics with: a type of its own, so that it is told from every other panic.
type failure struct{ err api.Errno }

// reader goes through bytes from their front; where it can't, it fails by a panic.
type reader struct{ rest []byte }

// read tells the packet that b begins with, or fails.
func read(b []byte) api.Ip {
	head, body := split(b)
	must(sum.Fold(sum.Add(0, head)) == 0xffff, api.ErrSum)
	// What is taken and left (form, length, checksum) has been seen to by now, and is no part of p.
	r := reader{head}
	var p api.Ip
	r.take(1)
	p.Tos = r.octet()
	r.take(2)
	p.Id = r.word()
	frag := r.word()
	p.Flags, p.Offset = byte(frag>>flagsShift), frag&mostOffset
	p.Ttl = r.octet()
	p.Proto = r.octet()
	r.take(2)
	p.Src = r.long()
	p.Dst = r.long()
	p.Opts = fresh(r.rest)
	p.Body = fresh(body)
	return p
}

// split tells the header and the body of the packet that b begins with, as pieces of b, or fails.
func split(b []byte) (head, body []byte) {
	r := reader{b}
	// These bytes are looked at ahead of their being taken, for they tell how many there are to take.
	r.need(leastHead)
	n, whole := 4*int(b[0]&0x0f), int(b[2])<<8|int(b[3])
	must(b[0]>>4 == version && n >= leastHead && whole >= n, api.ErrForm)
	head = r.take(n)
	body = r.take(whole - n)
	return head, body
}

// must fails, if it isn't so.
func must(so bool, err api.Errno) {
	if !so {
		panic(failure{err})
	}
}

// need fails, if fewer than n bytes are left.
func (r *reader) need(n int) {
	must(len(r.rest) >= n, api.ErrShort)
}

// take goes past the next n bytes and tells them.
func (r *reader) take(n int) []byte {
	r.need(n)
	b := r.rest[:n]
	r.rest = r.rest[n:]
	return b
}

func (r *reader) octet() byte {
	return r.take(1)[0]
}

func (r *reader) word() uint16 {
	b := r.take(2)
	return uint16(b[0])<<8 | uint16(b[1])
}

func (r *reader) long() uint32 {
	upper := r.word()
	lower := r.word()
	return uint32(upper)<<16 | uint32(lower)
}

// fresh tells b's bytes in memory that nobody else holds.
func fresh(b []byte) []byte {
	out := make([]byte, len(b))
	copy(out, b)
	return out
}
