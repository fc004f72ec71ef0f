package disk_test

import (
	"bytes"
	"math"
	"math/rand/v2"
	"testing"

	"lych/api"
	"lych/disk"
)

// told is a store told anew by plain means: all bytes in one row, and at what write the power goes (below 0: at none).
type told struct {
	row    []byte
	n      int
	size   int
	fuse   int
	prefix int
	dark   bool
}

func (m *told) read(i int) ([]byte, api.Errno) {
	switch {
	case m.dark:
		return nil, api.ErrDiskDead
	case i < 0 || i >= m.n:
		return nil, api.ErrDiskPlace
	}
	return m.row[i*m.size : (i+1)*m.size], api.OK
}

func (m *told) write(i int, b []byte) api.Errno {
	switch {
	case m.dark:
		return api.ErrDiskDead
	case i < 0 || i >= m.n:
		return api.ErrDiskPlace
	case len(b) != m.size:
		return api.ErrDiskSize
	}
	for at := range b {
		if m.fuse != 0 || at < m.prefix {
			m.row[i*m.size+at] = b[at]
		}
	}
	if m.fuse == 0 {
		m.dark = true
		return api.ErrDiskDead
	}
	m.fuse--
	return api.OK
}

func (m *told) spoil(i, at int, x byte) {
	if i >= 0 && i < m.n && at >= 0 && at < m.size {
		m.row[i*m.size+at] ^= x
	}
}

func (m *told) copy() *told {
	other := *m
	other.row = bytes.Clone(m.row)
	return &other
}

// near is a number about the bounds 0 and most, now and then one far off.
func near(r *rand.Rand, most int) int {
	switch r.IntN(10) {
	case 0:
		return -1 - r.IntN(3)
	case 1:
		return most + r.IntN(3)
	case 2:
		return []int{math.MinInt, math.MaxInt, 1 << 32}[r.IntN(3)]
	}
	return r.IntN(most)
}

// step does one thing at random to both, and holds their answers to one another.
func step(t *testing.T, r *rand.Rand, d *disk.Disk, m *told) {
	t.Helper()
	switch r.IntN(12) {
	case 0:
		n, prefix := near(r, 5), near(r, m.size)
		d.Cut(n, prefix)
		if !m.dark {
			m.fuse, m.prefix = max(n, 0), prefix
		}
	case 1:
		d.Power()
		m.dark, m.fuse = false, -1
	case 2, 3:
		i, at, x := near(r, m.n), near(r, m.size), byte(r.Uint32())
		d.Spoil(i, at, x)
		m.spoil(i, at, x)
	case 4, 5, 6:
		i := near(r, m.n)
		want, wantErr := m.read(i)
		if got, err := d.Read(i); err != wantErr || !bytes.Equal(got, want) {
			t.Fatalf("Read(%d): % x, %v; want % x, %v", i, got, err, want, wantErr)
		}
	default:
		i, size := near(r, m.n), m.size
		if r.IntN(8) == 0 {
			size = r.IntN(2 * m.size)
		}
		b := randomBytes(r, size)
		want := m.write(i, bytes.Clone(b))
		if err := d.Write(i, b); err != want {
			t.Fatalf("Write(%d, %d bytes): %v; want %v", i, size, err, want)
		}
	}
	if d.Dead() != m.dark || d.Blocks() != m.n || d.Size() != m.size {
		t.Fatalf("%v, %d, %d; want %v, %d, %d", d.Dead(), d.Blocks(), d.Size(), m.dark, m.n, m.size)
	}
}

// P9.1, P9.2 and P9.3: any calls in any order, a store and copies of it made on the way, against a store told by plain means.
func TestAnyCalls(t *testing.T) {
	r := random(5)
	for range 300 {
		n, size := 1+r.IntN(4), 64+r.IntN(10)
		stores := []*disk.Disk{disk.New(n, size)}
		models := []*told{{row: make([]byte, n*size), n: n, size: size, fuse: -1}}
		for range 300 {
			k := r.IntN(len(stores))
			if r.IntN(40) == 0 {
				stores, models = append(stores, stores[k].Copy()), append(models, models[k].copy())
			}
			step(t, r, stores[k], models[k])
		}
		for k, d := range stores {
			d.Power()
			for i := range n {
				wantRead(t, d, i, models[k].row[i*size:(i+1)*size])
			}
		}
	}
}
