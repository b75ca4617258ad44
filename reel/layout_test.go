package reel_test

import (
	"bytes"
	"hash/crc32"
	"testing"

	"arrears/api"
	"arrears/drum"
	"arrears/reel"
)

// What P15.1 words, byte by byte, with the library's CRC-32.

func low(n uint32) []byte {
	return []byte{byte(n), byte(n >> 8), byte(n >> 16), byte(n >> 24)}
}

func check(seed uint32, p []byte) uint32 {
	return crc32.ChecksumIEEE(append(low(seed), p...))
}

func frame(seed uint32, p []byte) []byte {
	f := append(low(uint32(len(p))), p...)
	return append(f, low(check(seed, f))...)
}

// sector is body, and noughts, between two marks.
func sector(mark byte, body []byte) []byte {
	s := append([]byte{mark}, body...)
	s = append(s, make([]byte, 255-len(s))...)
	return append(s, mark)
}

func head(gen uint32) []byte {
	return sector(byte(gen%251+1), frame(0, low(gen)))
}

// parts is the sectors of the record i.
func parts(gen uint32, i int, p []byte) [][]byte {
	var l [][]byte
	f := frame(check(gen, low(uint32(i))), p)
	for len(f) > 254 {
		l = append(l, sector(0xa5, f[:254]))
		f = f[254:]
	}
	return append(l, sector(0xa5, f))
}

// from is the first sector of a generation's half, on a drum of n.
func from(n int, gen uint32) int {
	if gen%2 == 0 {
		return 2
	}
	return 2 + (n-2)/2
}

// image is all bytes of a drum, a sector each.
type image [][]byte

func blank(n int) image {
	m := image{}
	for range n {
		m = append(m, make([]byte, 256))
	}
	return m
}

// with is the image with a generation's records and, if it has one, its head.
func (m image) with(gen uint32, headed bool, records ...[]byte) image {
	m = append(image{}, m...)
	if headed {
		m[gen%2] = head(gen)
	}
	at := from(len(m), gen)
	for i, p := range records {
		for _, s := range parts(gen, i, p) {
			m[at] = s
			at++
		}
	}
	return m
}

// drum is one that has the image, flushed.
func (m image) drum(t *testing.T) *drum.Drum {
	t.Helper()
	d := made(t, len(m))
	for i, s := range m {
		if !bytes.Equal(s, make([]byte, 256)) {
			wantCode(t, "Write", d.Write(i, s), api.OK)
		}
	}
	wantCode(t, "Flush", d.Flush(), api.OK)
	return d
}

func made(t *testing.T, n int) *drum.Drum {
	t.Helper()
	d, err := drum.New(n)
	wantCode(t, "drum.New", err, api.OK)
	return d
}

// seen is the image of a drum, as it is read.
func seen(t *testing.T, d *drum.Drum) image {
	t.Helper()
	m := image{}
	for i := range d.Size() {
		s, err := d.Read(i)
		wantCode(t, "Read", err, api.OK)
		m = append(m, s)
	}
	return m
}

// lasting is the image of a drum, as it is flushed.
func lasting(t *testing.T, d *drum.Drum) image {
	t.Helper()
	return seen(t, d.Fall(nil, -1))
}

func wantImage(t *testing.T, what string, got, want image) {
	t.Helper()
	if len(got) != len(want) {
		t.Fatalf("%s: %d sectors, want %d", what, len(got), len(want))
	}
	for i := range want {
		if !bytes.Equal(got[i], want[i]) {
			t.Fatalf("%s: the sector %d is\n%x, want\n%x", what, i, got[i], want[i])
		}
	}
}

func wantCode(t *testing.T, what string, err error, want api.Errno) {
	t.Helper()
	if got := api.Code(err); got != want {
		t.Fatalf("%s: error %d, want %d", what, got, want)
	}
}

// wantReel: the reel is of that generation, has those records, and the room that they leave.
func wantReel(t *testing.T, what string, d *drum.Drum, r *reel.Reel, gen uint32, records ...[]byte) {
	t.Helper()
	if r.Gen() != gen || r.Count() != len(records) {
		t.Fatalf("%s: generation %d, %d records, want %d, %d", what, r.Gen(), r.Count(), gen, len(records))
	}
	room := (d.Size() - 2) / 2
	for i, p := range r.Records() {
		if !bytes.Equal(p, records[i]) {
			t.Fatalf("%s: the record %d has %d bytes, want %d", what, i, len(p), len(records[i]))
		}
		room -= len(parts(gen, i, p))
	}
	if len(r.Records()) != len(records) || r.Room() != room {
		t.Fatalf("%s: %d records, room %d, want %d, %d", what, len(r.Records()), r.Room(), len(records), room)
	}
}

func wantOpen(t *testing.T, what string, d *drum.Drum, gen uint32, records ...[]byte) *reel.Reel {
	t.Helper()
	r, err := reel.Open(d)
	wantCode(t, what+": Open", err, api.OK)
	wantReel(t, what, d, r, gen, records...)
	return r
}

// wantNoOpen: Open tells that error, no reel, and changes nothing.
func wantNoOpen(t *testing.T, what string, d *drum.Drum, want api.Errno) {
	t.Helper()
	before, dirty := seen(t, d), d.Dirty()
	r, err := reel.Open(d)
	wantCode(t, what+": Open", err, want)
	if r != nil || d.Dirty() != dirty {
		t.Fatalf("%s: Open: a reel, or writes, beside an error", what)
	}
	wantImage(t, what+": Open", seen(t, d), before)
}

func wantMake(t *testing.T, d *drum.Drum, first []byte) *reel.Reel {
	t.Helper()
	r, err := reel.Make(d, first)
	wantCode(t, "Make", err, api.OK)
	wantReel(t, "Make", d, r, 1, first)
	return r
}

func appended(t *testing.T, r *reel.Reel, records ...[]byte) {
	t.Helper()
	for _, p := range records {
		wantCode(t, "Append", r.Append(p), api.OK)
	}
}

func flushed(t *testing.T, r *reel.Reel) {
	t.Helper()
	wantCode(t, "Flush", r.Flush(), api.OK)
}

func turned(t *testing.T, r *reel.Reel, first []byte) {
	t.Helper()
	wantCode(t, "Turn", r.Turn(first), api.OK)
}

// some is n bytes, none of them a nought.
func some(n int) []byte {
	p := make([]byte, n)
	for k := range p {
		p[k] = byte(1 + (k*7+n)%255)
	}
	return p
}

// junk is a sector of which no layout is right.
func junk() []byte {
	return bytes.Repeat([]byte("junk"), 64)
}
