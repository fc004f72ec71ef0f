package log

import "errors"

// errNotWhole: a block holds no piece: it was never written, its write failed, or it was spoilt since.
var errNotWhole = errors.New("a block that isn't whole")

// piece is what one block holds of an entry.
type piece struct {
	turn   uint64
	count  int
	index  int // so many pieces are ahead of it
	pieces int // so many there are
	bytes  []byte
}

// Where a block's parts stand: a mark, a checksum of what is behind it, a piece; the same mark is the last byte.
const (
	sumAt    = 1
	turnAt   = 5
	countAt  = 13
	indexAt  = 21
	piecesAt = 22
	sizeAt   = 23
	sizeEnd  = 27
	bytesAt  = 63
	frame    = 64 // bytes of a block that aren't a piece's own
)

// mark stands at both ends of a block that was written to its end: blank ones have noughts there.
const mark = 0xa5

// framed tells the block of size bytes that holds p.
func framed(p piece, size int) []byte {
	b := make([]byte, size)
	b[0], b[size-1] = mark, mark
	put(b[turnAt:countAt], p.turn)
	put(b[countAt:indexAt], uint64(p.count))
	put(b[indexAt:piecesAt], uint64(p.index))
	put(b[piecesAt:sizeAt], uint64(p.pieces))
	put(b[sizeAt:sizeEnd], uint64(len(p.bytes)))
	copy(b[bytesAt:], p.bytes)
	put(b[sumAt:turnAt], uint64(Sum(b[turnAt:bytesAt+len(p.bytes)])))
	return b
}

// unframed tells the piece that block b holds, as it lies there, or errNotWhole.
func unframed(b []byte) (piece, error) {
	size := get(b[sizeAt:sizeEnd])
	if b[0] != mark || b[len(b)-1] != mark || size > uint64(len(b)-frame) {
		return piece{}, errNotWhole
	}
	end := bytesAt + int(size)
	if uint64(Sum(b[turnAt:end])) != get(b[sumAt:turnAt]) {
		return piece{}, errNotWhole
	}
	return piece{
		turn:   get(b[turnAt:countAt]),
		count:  int(get(b[countAt:indexAt])),
		index:  int(get(b[indexAt:piecesAt])),
		pieces: int(get(b[piecesAt:sizeAt])),
		bytes:  b[bytesAt:end],
	}, nil
}

// put writes x into all of b, its highest byte first.
func put(b []byte, x uint64) {
	for i := range b {
		b[i] = byte(x >> (8 * (len(b) - 1 - i)))
	}
}

// get tells the number that put wrote into b.
func get(b []byte) uint64 {
	x := uint64(0)
	for _, y := range b {
		x = x<<8 | uint64(y)
	}
	return x
}
