package cfg

import (
	"bytes"
	"slices"

	"lych/api"
)

// mostCounted is the greatest number that the one byte ahead of a text or a list can tell.
const mostCounted = 255

// field is how one part of a T is gone through. All calls go through one list of fields, so that none of them can leave out a part that another one has.
type field[T any] struct {
	write func(out []byte, t *T) []byte               // out with the part behind it
	read  func(b []byte, t *T) (rest []byte, ok bool) // what is behind the part; not ok, if b ends ahead
	same  func(a, b *T) bool
}

// whole tells the T that all of b is.
func whole[T any](f field[T], b []byte) (T, api.Errno) {
	var t, zero T
	rest, ok := f.read(b, &t)
	if !ok || len(rest) > 0 {
		return zero, api.ErrCode
	}
	return t, api.OK
}

// all tells the field that these are, one behind the other.
func all[T any](list []field[T]) field[T] {
	return field[T]{
		write: func(out []byte, t *T) []byte {
			for _, f := range list {
				out = f.write(out, t)
			}
			return out
		},
		read: func(b []byte, t *T) ([]byte, bool) {
			for _, f := range list {
				rest, ok := f.read(b, t)
				if !ok {
					return nil, false
				}
				b = rest
			}
			return b, true
		},
		same: func(a, b *T) bool {
			for _, f := range list {
				if !f.same(a, b) {
					return false
				}
			}
			return true
		},
	}
}

// number tells the field of a number, of which the lowest size bytes are written.
func number[T any, N uint16 | uint32 | int](size int, of func(*T) *N) field[T] {
	return field[T]{
		write: func(out []byte, t *T) []byte { return put(out, size, uint64(*of(t))) },
		read: func(b []byte, t *T) ([]byte, bool) {
			part, rest, ok := split(b, size)
			if ok {
				*of(t) = N(get(part))
			}
			return rest, ok
		},
		same: func(a, b *T) bool { return *of(a) == *of(b) },
	}
}

// octets tells the field of an array of bytes, which of tells as a piece of its T.
func octets[T any](of func(*T) []byte) field[T] {
	return field[T]{
		write: func(out []byte, t *T) []byte { return append(out, of(t)...) },
		read: func(b []byte, t *T) ([]byte, bool) {
			part, rest, ok := split(b, len(of(t)))
			if ok {
				copy(of(t), part)
			}
			return rest, ok
		},
		same: func(a, b *T) bool { return bytes.Equal(of(a), of(b)) },
	}
}

// text tells the field of a text: its length and its bytes.
func text[T any](of func(*T) *string) field[T] {
	return field[T]{
		write: func(out []byte, t *T) []byte {
			s := *of(t)
			s = s[:min(len(s), mostCounted)]
			return append(append(out, byte(len(s))), s...)
		},
		read: func(b []byte, t *T) ([]byte, bool) {
			length, rest, ok := split(b, 1)
			if !ok {
				return nil, false
			}
			part, rest, ok := split(rest, int(length[0]))
			if ok {
				*of(t) = string(part)
			}
			return rest, ok
		},
		same: func(a, b *T) bool { return *of(a) == *of(b) },
	}
}

// count tells the field of a list's length. Read, it makes room for as many, which items reads then.
func count[T, E any](of func(*T) *[]E) field[T] {
	return field[T]{
		write: func(out []byte, t *T) []byte { return append(out, byte(len(counted(*of(t))))) },
		read: func(b []byte, t *T) ([]byte, bool) {
			length, rest, ok := split(b, 1)
			if ok && length[0] > 0 {
				*of(t) = make([]E, length[0])
			}
			return rest, ok
		},
		same: func(a, b *T) bool { return len(*of(a)) == len(*of(b)) },
	}
}

// items tells the field of a list's elements, without its length.
func items[T, E any](of func(*T) *[]E, item field[E]) field[T] {
	return field[T]{
		write: func(out []byte, t *T) []byte {
			for _, e := range counted(*of(t)) {
				out = item.write(out, &e)
			}
			return out
		},
		read: func(b []byte, t *T) ([]byte, bool) {
			list := *of(t)
			for i := range list {
				rest, ok := item.read(b, &list[i])
				if !ok {
					return nil, false
				}
				b = rest
			}
			return b, true
		},
		same: func(a, b *T) bool {
			return slices.EqualFunc(*of(a), *of(b), func(x, y E) bool { return item.same(&x, &y) })
		},
	}
}

// counted tells the first ones of a list, as many as are written.
func counted[E any](list []E) []E {
	return list[:min(len(list), mostCounted)]
}

// split tells the first n bytes of b and the others, and whether there are so many.
func split(b []byte, n int) (part, rest []byte, ok bool) {
	if len(b) < n {
		return nil, nil, false
	}
	return b[:n], b[n:], true
}

// put tells out with the lowest size bytes of x behind it, the highest of them first.
func put(out []byte, size int, x uint64) []byte {
	for i := range size {
		out = append(out, byte(x>>(8*(size-1-i))))
	}
	return out
}

// get tells the number that put wrote.
func get(b []byte) uint64 {
	x := uint64(0)
	for _, y := range b {
		x = x<<8 | uint64(y)
	}
	return x
}
