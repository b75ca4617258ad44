package drum_test

import (
	"bytes"
	"math/rand"
	"testing"

	"arrears/api"
	"arrears/drum"
)

// model is a drum told as the document words it, without regard to time or room.
type model struct {
	flushed [][]byte
	writes  []pending
	left    int
}

type pending struct {
	at   int
	data []byte
}

func newModel(n int) *model {
	m := &model{left: -1}
	for range n {
		m.flushed = append(m.flushed, make([]byte, 256))
	}
	return m
}

func (m *model) copied() *model {
	c := &model{left: -1}
	for _, s := range m.flushed {
		c.flushed = append(c.flushed, bytes.Clone(s))
	}
	c.writes = append(c.writes, m.writes...)
	return c
}

func (m *model) read(i int) []byte {
	p := m.flushed[i]
	for _, w := range m.writes {
		if w.at == i {
			p = w.data
		}
	}
	return p
}

func (m *model) spend() api.Errno {
	if m.left == 0 {
		return api.ErrOff
	}
	if m.left > 0 {
		m.left--
	}
	return api.OK
}

func (m *model) write(i int, p []byte) api.Errno {
	if i < 0 || i >= len(m.flushed) {
		return api.ErrIndex
	}
	if len(p) > 256 {
		return api.ErrLong
	}
	e := m.spend()
	if e == api.OK {
		m.writes = append(m.writes, pending{i, padded(string(p))})
	}
	return e
}

func (m *model) flush() api.Errno {
	e := m.spend()
	if e == api.OK {
		for _, w := range m.writes {
			m.flushed[w.at] = bytes.Clone(w.data)
		}
		m.writes = nil
	}
	return e
}

func (m *model) fall(keep []bool, torn int) *model {
	f := m.copied()
	f.writes = nil
	var there []pending
	for k, w := range m.writes {
		if k < len(keep) && keep[k] {
			there = append(there, w)
		}
	}
	for k, w := range there {
		n := 256
		if k == len(there)-1 && 0 <= torn && torn <= 256 {
			n = torn
		}
		f.flushed[w.at] = append(bytes.Clone(w.data[:n]), f.flushed[w.at][n:]...)
	}
	return f
}

func (m *model) turn(i, bit int, mask uint32) api.Errno {
	if i < 0 || i >= len(m.flushed) || bit < 0 || bit > 2047 {
		return api.ErrIndex
	}
	m.flushed[i] = turned(m.flushed[i], bit, mask)
	return api.OK
}

// wantAlike: the drum tells what the model tells.
func wantAlike(t *testing.T, d *drum.Drum, m *model) {
	t.Helper()
	if d.Size() != len(m.flushed) || d.Dirty() != len(m.writes) {
		t.Fatalf("Size %d, Dirty %d, want %d, %d", d.Size(), d.Dirty(), len(m.flushed), len(m.writes))
	}
	for i := range m.flushed {
		p, err := d.Read(i)
		want := m.read(i)
		if err != nil || !bytes.Equal(p, want) {
			t.Fatalf("Read(%d) = %x, %v, want %x", i, p, err, want)
		}
		if clean := bytes.Equal(want, make([]byte, 256)); d.Clean(i) != clean {
			t.Fatalf("Clean(%d) = %v, want %v", i, d.Clean(i), clean)
		}
	}
}

func someBytes(r *rand.Rand) []byte {
	p := make([]byte, []int{0, 1, 9, 255, 256, 256, 257}[r.Intn(7)])
	if r.Intn(4) > 0 {
		r.Read(p)
	}
	return p
}

func someKeep(r *rand.Rand, n int) []bool {
	keep := make([]bool, max(0, n+r.Intn(4)-2))
	for k := range keep {
		keep[k] = r.Intn(3) > 0
	}
	return keep
}

func someTorn(r *rand.Rand) int {
	return []int{-1, 0, 1, 5, 128, 255, 256, 257, 300}[r.Intn(9)]
}

// play does one call on both, and tells what they have become.
func play(t *testing.T, r *rand.Rand, d *drum.Drum, m *model) (*drum.Drum, *model) {
	t.Helper()
	i := r.Intn(len(m.flushed)+2) - 1
	switch op := r.Intn(20); {
	case op < 10:
		p := someBytes(r)
		wantCode(t, "Write", d.Write(i, p), m.write(i, p))
	case op < 12:
		wantCode(t, "Flush", d.Flush(), m.flush())
	case op < 15:
		bit, mask := r.Intn(2060)-6, r.Uint32()
		wantCode(t, "Turn", d.Turn(i, bit, mask), m.turn(i, bit, mask))
	case op < 16:
		m.left = r.Intn(12) - 3
		d.Arm(m.left)
	case op < 19:
		keep, torn := someKeep(r, len(m.writes)), someTorn(r)
		f, g := d.Fall(keep, torn), m.fall(keep, torn)
		wantAlike(t, f, g)
		if r.Intn(4) == 0 {
			return f, g
		}
	default:
		c, k := d.Copy(), m.copied()
		wantAlike(t, c, k)
		if r.Intn(2) == 0 {
			return c, k
		}
	}
	return d, m
}

// P1.1, P1.2, P2: long courses of calls tell what the document words.
func TestDrumAgainstModel(t *testing.T) {
	for seed := range int64(40) {
		r := rand.New(rand.NewSource(seed))
		n := 1 + r.Intn(5)
		d, m := made(t, n), newModel(n)
		for range 300 {
			d, m = play(t, r, d, m)
			wantAlike(t, d, m)
		}
	}
}
