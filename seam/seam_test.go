package seam_test

import (
	"bytes"
	"hash/crc32"
	"math"
	"math/bits"
	"math/rand"
	"testing"

	"arrears/api"
	"arrears/seam"
)

var seeds = []uint32{0, 1, 7, 0x01020304, 0x80000000, 0xedb88320, 0xffffffff}

// low is n's four bytes, the lowest first.
func low(n uint32) []byte {
	return []byte{byte(n), byte(n >> 8), byte(n >> 16), byte(n >> 24)}
}

func joined(l ...[]byte) []byte {
	return bytes.Join(l, nil)
}

// sum is Check by the library's CRC-32.
func sum(seed uint32, p []byte) uint32 {
	return crc32.ChecksumIEEE(joined(low(seed), p))
}

// some is n bytes that look like none in particular.
func some(n int) []byte {
	p := make([]byte, n)
	rand.New(rand.NewSource(int64(n))).Read(p)
	return p
}

func wantNext(t *testing.T, seed uint32, b, p []byte) {
	t.Helper()
	q, n, err := seam.Next(seed, b)
	if err != nil || n != len(p)+8 || !bytes.Equal(q, p) {
		t.Fatalf("Next of %d bytes: %d bytes, %d, %v, want %d bytes", len(b), len(q), n, err, len(p))
	}
}

func wantError(t *testing.T, seed uint32, b []byte, want api.Errno) {
	t.Helper()
	q, n, err := seam.Next(seed, b)
	if api.Code(err) != want {
		t.Fatalf("Next of %d bytes: error %d, want %d", len(b), api.Code(err), want)
	}
	if len(q) != 0 || n != 0 {
		t.Fatalf("Next: %d bytes and %d beside an error", len(q), n)
	}
}

// P2.1: Check.

func TestCheckIsCRC32(t *testing.T) {
	for _, seed := range seeds {
		for _, n := range []int{0, 1, 2, 3, 4, 5, 8, 31, 32, 255, 256, 257, 1000, 100000, 100001} {
			p := some(n)
			if got, want := seam.Check(seed, p), sum(seed, p); got != want {
				t.Fatalf("Check(%x, %d bytes) = %08x, want %08x", seed, n, got, want)
			}
		}
	}
	for b := range 256 {
		if p := []byte{byte(b)}; seam.Check(9, p) != sum(9, p) {
			t.Fatalf("Check of the byte %x", b)
		}
	}
}

func TestCheckExamples(t *testing.T) {
	// the check of the digits 1 to 9 is known: cbf43926
	digits := seam.Check(0x34333231, []byte("56789"))
	if seam.Check(0, nil) != 0x2144df1c || seam.Check(0, []byte{}) != 0x2144df1c || digits != 0xcbf43926 {
		t.Fatalf("%08x %08x", seam.Check(0, nil), digits)
	}
}

// P2.1: Frame and Size.

func TestFrameIsLengthBytesCheck(t *testing.T) {
	for _, seed := range seeds {
		for _, n := range []int{0, 1, 4, 255, 256, 257, 65535, 65536, 65537, 100000, 100001} {
			p := some(n)
			front := joined(low(uint32(n)), p)
			want := joined(front, low(sum(seed, front)))
			if got := seam.Frame(seed, p); !bytes.Equal(got, want) {
				t.Fatalf("Frame(%x, %d bytes): %d bytes", seed, n, len(got))
			}
		}
	}
}

func TestFrameByBytes(t *testing.T) {
	want := []byte{0, 0, 0, 0, 0x69, 0xdf, 0x22, 0x65} // of eight noughts: 6522df69
	if got := seam.Frame(0, nil); !bytes.Equal(got, want) {
		t.Fatalf("Frame(0, nothing) = %x, want %x", got, want)
	}
}

func TestSize(t *testing.T) {
	for _, n := range []int{0, 1, 2, 255, 256, 100000, 100001} {
		if got := seam.Size(n); got != n+8 || got != len(seam.Frame(3, make([]byte, n))) {
			t.Fatalf("Size(%d) = %d", n, got)
		}
	}
	for _, n := range []int{-1, -8, -9, -100000, math.MinInt} {
		if got := seam.Size(n); got != 0 {
			t.Fatalf("Size(%d) = %d", n, got)
		}
	}
}

// P2.1: Next.

func TestNextTellsWhatAFrameHas(t *testing.T) {
	for _, seed := range seeds {
		for _, n := range []int{0, 1, 2, 3, 4, 255, 256, 257, 65536, 99999, 100000} {
			p := some(n)
			f := seam.Frame(seed, p)
			wantNext(t, seed, f, p)
			wantNext(t, seed, append(bytes.Clone(f), 0), p)
			wantNext(t, seed, append(bytes.Clone(f), f...), p)
			wantNext(t, seed, append(bytes.Clone(f), 0xff, 0xff, 0xff, 0xff, 1), p)
		}
	}
	wantNext(t, 5, seam.Frame(5, make([]byte, 20)), make([]byte, 20)) // noughts in a frame are bytes like others
}

func TestNextGoesFromFrameToFrame(t *testing.T) {
	var b []byte
	for k := range 20 {
		b = append(b, seam.Frame(uint32(k), some(k*k))...)
	}
	for k := range 20 {
		p, n, err := seam.Next(uint32(k), b)
		if err != nil || !bytes.Equal(p, some(k*k)) {
			t.Fatalf("frame %d: %v", k, err)
		}
		b = b[n:]
	}
	wantError(t, 20, b, api.ErrNone)
}

func TestNextOfNoughtsIsNone(t *testing.T) {
	wantError(t, 0, nil, api.ErrNone)
	for n := range 40 {
		wantError(t, 0, make([]byte, n), api.ErrNone)
		wantError(t, 0xffffffff, make([]byte, n), api.ErrNone)
	}
	wantError(t, 3, make([]byte, 300000), api.ErrNone)
	for k := range 40 { // one byte that is no nought, wherever it is
		b := make([]byte, 40)
		b[k] = 0x80
		if _, _, err := seam.Next(0, b); err == nil || api.Code(err) == api.ErrNone {
			t.Fatalf("a byte that is no nought at %d: %v", k, err)
		}
	}
	wantError(t, 0, append(make([]byte, 8), 1), api.ErrSum)
	wantError(t, 0, append(make([]byte, 6), 1), api.ErrForm)
}

// blankSeed is the one seed of which the frame of nothing is eight noughts: the check of eight noughts, gone back from its end, bit by bit.
func blankSeed() uint32 {
	s := uint32(0xffffffff)
	for range 64 {
		if s>>31 == 1 {
			s = (s^0xedb88320)<<1 | 1
		} else {
			s <<= 1
		}
	}
	return ^s
}

func TestNextOfAFrameOfNoughts(t *testing.T) {
	seed := blankSeed()
	f := seam.Frame(seed, nil)
	if !bytes.Equal(f, make([]byte, 8)) {
		t.Fatalf("Frame(%08x, nothing) = %x", seed, f)
	}
	wantError(t, seed, f, api.ErrNone)
	wantNext(t, seed, append(f, 1), nil)
}

func TestNextOfWhatIsNotWhole(t *testing.T) {
	for _, n := range []int{0, 1, 30, 255, 256} {
		f := seam.Frame(7, some(n))
		for k := range len(f) {
			want := api.ErrForm
			if bytes.Equal(f[:k], make([]byte, k)) {
				want = api.ErrNone
			}
			wantError(t, 7, f[:k], want)
		}
	}
	for _, n := range []uint32{3, 100001, 1 << 24, 0x7fffffff, 0x80000000, 0xfffffff7, 0xfffffff8, 0xfffffffc, 0xffffffff} {
		wantError(t, 0, low(n), api.ErrForm)
		wantError(t, 0, joined(low(n), make([]byte, 4)), api.ErrForm)
		wantError(t, 0, joined(low(n), make([]byte, 6)), api.ErrForm)
	}
}

func TestNextLooksNotBehindWhatItIsHanded(t *testing.T) {
	f := seam.Frame(7, some(30))
	wantError(t, 7, f[:37], api.ErrForm) // the last byte is in the spare room
	wantError(t, 7, f[:20], api.ErrForm)
}

func TestNextOfWhatIsTooLong(t *testing.T) {
	for _, n := range []int{100001, 200000, 1 << 20} {
		f := seam.Frame(7, some(n))
		wantError(t, 7, f, api.ErrLong)
		wantError(t, 7, append(bytes.Clone(f), 1, 2, 3), api.ErrLong)
		wantError(t, 8, f, api.ErrLong) // ahead of the check
		wantError(t, 7, f[:len(f)-1], api.ErrForm)
	}
	f := seam.Frame(7, some(100000))
	f[0]++ // 100001, and one byte too few
	wantError(t, 7, f, api.ErrForm)
	wantError(t, 7, append(f, 0), api.ErrLong)
}

func TestNextOfAWrongCheck(t *testing.T) {
	f := seam.Frame(7, []byte("text"))
	for _, seed := range []uint32{0, 6, 8, 0x07000000, 0xfffffff8} {
		wantError(t, seed, f, api.ErrSum)
	}
	for k := range 4 { // each byte of the check counts
		g := bytes.Clone(f)
		g[8+k] ^= 0x10
		wantError(t, 7, g, api.ErrSum)
		wantError(t, 7, append(g, f...), api.ErrSum)
	}
	g := bytes.Clone(f)
	g[0] = 3 // shorter than it was
	wantError(t, 7, g, api.ErrSum)
}

// The rules: what is handed in is not changed and not kept, what is answered is new.

func TestNothingIsShared(t *testing.T) {
	room := []byte("what is handed in")
	f := seam.Frame(1, room[:4])
	seam.Check(1, room[:4])
	if string(room) != "what is handed in" {
		t.Fatalf("what was handed in is %q now", room)
	}
	room[0] = 'X'
	wantNext(t, 1, f, []byte("what"))

	b := append(bytes.Clone(f), "behind"...)
	before := bytes.Clone(b)
	p, _, _ := seam.Next(1, b)
	q, _, _ := seam.Next(1, b)
	p[0] = 'Y'
	_ = append(p, "over the end"...)
	if !bytes.Equal(b, before) || string(q) != "what" {
		t.Fatalf("%q %q", b, q)
	}
	clear(b)
	if string(q) != "what" {
		t.Fatalf("an earlier answer is %q now", q)
	}
	b = append(seam.Frame(2, nil), "behind"...)
	before = bytes.Clone(b)
	e, _, _ := seam.Next(2, b) // nothing, and no room of what was handed in either
	_ = append(e, "over the end"...)
	if !bytes.Equal(b, before) {
		t.Fatalf("what was handed in is %q now", b)
	}
}

// P2.2: bursts of at most 32 bits.

// burst is f with the bits of the mask turned from the bit on, of a byte the lowest one first.
func burst(f []byte, bit int, mask uint32) []byte {
	g := bytes.Clone(f)
	for k := range 32 {
		if at := bit + k; mask>>k&1 == 1 && at < 8*len(g) {
			g[at/8] ^= 1 << (at % 8)
		}
	}
	return g
}

func masks(r *rand.Rand) []uint32 {
	l := []uint32{1, 3, 0x80000001, 0xffffffff, 0xedb88320, 0x80000000, 0x00010001, 0xdb710641}
	for range 12 {
		l = append(l, r.Uint32()|1)
	}
	for range 4 { // short ones
		l = append(l, r.Uint32()>>r.Intn(32)|1)
	}
	return l
}

// wantTurnedFound: Next doesn't tell g, a frame of which some bits are turned, nor with bytes behind it.
func wantTurnedFound(t *testing.T, seed uint32, g []byte) {
	t.Helper()
	want := api.ErrSum
	if bytes.Equal(g, make([]byte, len(g))) { // P2.1's order: a frame of nothing that is turned into noughts
		want = api.ErrNone
	}
	wantError(t, seed, g, want)
	wantError(t, seed, append(g, 0xff), api.ErrSum)
}

func TestTurnedBitsAreFound(t *testing.T) {
	r := rand.New(rand.NewSource(1))
	for _, n := range []int{0, 1, 2, 3, 4, 5, 20, 64} {
		for _, seed := range seeds {
			f := seam.Frame(seed, some(n))
			for bit := 32; bit < 8*len(f); bit++ {
				for _, mask := range masks(r) {
					if g := burst(f, bit, mask); !bytes.Equal(f, g) {
						wantTurnedFound(t, seed, g)
					}
				}
			}
		}
	}
}

func TestTwoTurnedBitsAreFound(t *testing.T) {
	f := seam.Frame(11, some(24))
	for bit := 32; bit < 8*len(f); bit++ {
		for gap := range 32 {
			if bit+gap < 8*len(f) {
				wantTurnedFound(t, 11, burst(f, bit, 1|1<<gap))
			}
		}
	}
}

func TestTurnedBitsAreFoundInALongFrame(t *testing.T) {
	r := rand.New(rand.NewSource(2))
	f := seam.Frame(12, some(100000))
	for _, bit := range []int{32, 33, 8 * 128, 8*50000 + 3, 8*100004 - 31, 8*100004 - 1, 8 * 100004, 8*len(f) - 1} {
		for _, mask := range masks(r)[:10] {
			if mask = mask >> bits.TrailingZeros32(mask); bit+bits.Len32(mask) <= 8*len(f) {
				wantTurnedFound(t, 12, burst(f, bit, mask))
			}
		}
	}
}

func TestTurnedIntoNoughts(t *testing.T) {
	f := seam.Frame(0, nil)
	check := uint32(f[4]) | uint32(f[5])<<8 | uint32(f[6])<<16 | uint32(f[7])<<24
	wantError(t, 0, burst(f, 32, check), api.ErrNone)
	wantError(t, 0, append(burst(f, 32, check), 1), api.ErrSum)
}
