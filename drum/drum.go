// Package drum is layer 1: see shared/doc/01-drum.md.
package drum

import (
	"slices"

	"arrears/api"
)

// sector is an array, so that it is taken over, and held against another one, whole.
type sector [api.Sector]byte

const sectorBits = 8 * api.Sector

type write struct {
	at   int
	data sector
}

// Drum is sectors, and writes that aren't flushed.
type Drum struct {
	flushed []sector
	writes  []write
	last    []int // of each sector: the place of its last write, and 1; 0: it has none
	left    int   // how many more go well; below 0: all
}

// New makes a drum of n sectors of noughts.
func New(n int) (*Drum, error) {
	if n < 1 || n > api.MaxSector {
		return nil, api.ErrArg
	}
	return blank(n), nil
}

func blank(n int) *Drum {
	return &Drum{flushed: make([]sector, n), last: make([]int, n), left: -1}
}

// Size tells how many sectors there are.
func (d *Drum) Size() int {
	if d == nil {
		return 0
	}
	return len(d.flushed)
}

// Write makes the sector i p, with noughts behind it.
func (d *Drum) Write(i int, p []byte) error {
	switch {
	case d == nil:
		return api.ErrNone
	case !d.has(i):
		return api.ErrIndex
	case len(p) > api.Sector:
		return api.ErrLong
	}
	if err := d.spend(); err != nil {
		return err
	}
	w := write{at: i}
	copy(w.data[:], p)
	d.writes = append(d.writes, w)
	d.last[i] = len(d.writes)
	return nil
}

// Read tells the sector i as the last write has it.
func (d *Drum) Read(i int) ([]byte, error) {
	switch {
	case d == nil:
		return nil, api.ErrNone
	case !d.has(i):
		return nil, api.ErrIndex
	}
	p := make([]byte, api.Sector)
	copy(p, d.seen(i)[:])
	return p, nil
}

// Flush makes the writes last.
func (d *Drum) Flush() error {
	if d == nil {
		return api.ErrNone
	}
	if err := d.spend(); err != nil {
		return err
	}
	for _, w := range d.writes {
		d.flushed[w.at] = w.data
		d.last[w.at] = 0
	}
	d.writes = nil
	return nil
}

// Fall tells the drum that a stop of power leaves, if it keeps these of the writes that aren't flushed.
func (d *Drum) Fall(keep []bool, torn int) *Drum {
	if d == nil {
		return nil
	}
	f := blank(len(d.flushed))
	copy(f.flushed, d.flushed)
	tail := lastKept(keep, len(d.writes))
	for k, w := range d.writes[:tail+1] {
		if !keep[k] {
			continue
		}
		n := api.Sector
		if k == tail && torn >= 0 && torn < n {
			n = torn
		}
		copy(f.flushed[w.at][:n], w.data[:])
	}
	return f
}

// lastKept tells the last of n places that is kept; -1: none is.
func lastKept(keep []bool, n int) int {
	k := min(n, len(keep)) - 1
	for k >= 0 && !keep[k] {
		k--
	}
	return k
}

// Dirty tells how many writes aren't flushed.
func (d *Drum) Dirty() int {
	if d == nil {
		return 0
	}
	return len(d.writes)
}

// Clean tells whether the sector i reads as noughts.
func (d *Drum) Clean(i int) bool {
	return d != nil && d.has(i) && *d.seen(i) == sector{}
}

// Arm lets n more Writes and Flushes go well; below 0: all.
func (d *Drum) Arm(n int) {
	if d != nil {
		d.left = n
	}
}

// Turn turns bits of the sector i as it is flushed: a write of it that isn't flushed yet hides that, and its Flush undoes it.
func (d *Drum) Turn(i, bit int, mask uint32) error {
	switch {
	case d == nil:
		return api.ErrNone
	case !d.has(i), bit < 0, bit >= sectorBits:
		return api.ErrIndex
	}
	for k := range min(32, sectorBits-bit) {
		if mask>>k&1 == 1 {
			d.flushed[i][(bit+k)/8] ^= 1 << ((bit + k) % 8)
		}
	}
	return nil
}

// Copy tells another drum, alike, but not armed.
func (d *Drum) Copy() *Drum {
	if d == nil {
		return nil
	}
	return &Drum{
		flushed: slices.Clone(d.flushed),
		writes:  slices.Clone(d.writes),
		last:    slices.Clone(d.last),
		left:    -1,
	}
}

func (d *Drum) has(i int) bool {
	return i >= 0 && i < len(d.flushed)
}

// seen is the sector i as the last write has it, for reading alone.
func (d *Drum) seen(i int) *sector {
	if k := d.last[i]; k > 0 {
		return &d.writes[k-1].data
	}
	return &d.flushed[i]
}

// spend counts one Write or Flush that has no other error.
func (d *Drum) spend() error {
	if d.left == 0 {
		return api.ErrOff
	}
	if d.left > 0 {
		d.left--
	}
	return nil
}
