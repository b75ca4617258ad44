package reel_test

import (
	"bytes"
	"fmt"
	"math"
	"testing"

	"arrears/api"
	"arrears/drum"
	"arrears/reel"
)

// P15.1: the layout.

func TestPages(t *testing.T) {
	for n := range 1600 {
		if got, want := reel.Pages(n), len(parts(1, 0, make([]byte, n))); got != want {
			t.Fatalf("Pages(%d) = %d, want %d", n, got, want)
		}
	}
	for _, c := range []struct{ n, want int }{
		{0, 1}, {246, 1}, {247, 2}, {500, 2}, {501, 3}, {100000, 394},
		{-1, 0}, {-8, 0}, {-9, 0}, {-254, 0}, {-262, 0}, {-1000, 0}, {math.MinInt, 0},
		{math.MaxInt, math.MaxInt/254 + 1}, // 2^63 - 1 is 7 beyond so many times 254
	} {
		if got := reel.Pages(c.n); got != c.want {
			t.Fatalf("Pages(%d) = %d, want %d", c.n, got, c.want)
		}
	}
}

func TestMakeLaysTheDrumOut(t *testing.T) {
	for _, n := range []int{6, 7, 8, 9, 12, 13, 600, 8191, 8192} {
		for _, size := range []int{0, 1, 245, 246, 247, 500, 501, 754, 755, 1262, 99999, 100000} {
			if len(parts(1, 0, some(size))) > (n-2)/2 {
				continue
			}
			d := made(t, n)
			wantMake(t, d, some(size))
			want := blank(n).with(1, true, some(size))
			wantImage(t, "Make", seen(t, d), want)
			wantImage(t, "Make, flushed", lasting(t, d), want)
			wantOpen(t, "made", d, 1, some(size))
		}
	}
}

// Word by word, so that the layout above is held against bytes as well.
func TestLayoutByBytes(t *testing.T) {
	d := made(t, 7)
	r := wantMake(t, d, nil)
	turned(t, r, []byte("a"))
	m := seen(t, d)
	for i, mark := range []byte{3, 2, 0xa5, 0, 0xa5, 0, 0} {
		if m[i][0] != mark || m[i][255] != mark {
			t.Fatalf("the sector %d is marked %02x and %02x, want %02x", i, m[i][0], m[i][255], mark)
		}
	}
	if !bytes.HasPrefix(m[0], []byte{3, 4, 0, 0, 0, 2, 0, 0, 0}) || !bytes.HasPrefix(m[2], []byte{0xa5, 1, 0, 0, 0, 'a'}) {
		t.Fatalf("%x %x", m[0][:13], m[2][:13])
	}
}

func TestAppendLaysRecordsBehindEachOther(t *testing.T) {
	d := made(t, 43)
	r := wantMake(t, d, []byte("first"))
	want := [][]byte{[]byte("first")}
	for _, size := range []int{0, 246, 247, 3, 754, 755, 0, 0, 500, 1} {
		appended(t, r, some(size))
		want = append(want, some(size))
		wantReel(t, "Append", d, r, 1, want...)
		wantImage(t, "Append", seen(t, d), blank(43).with(1, true, want...))
		wantImage(t, "Append, not flushed", lasting(t, d), blank(43).with(1, true, want[0]))
	}
	flushed(t, r)
	wantImage(t, "Flush", lasting(t, d), blank(43).with(1, true, want...))
	wantOpen(t, "appended", d.Fall(nil, -1), 1, want...)
}

func TestGenerationsTakeTurns(t *testing.T) {
	d := made(t, 9)
	r := wantMake(t, d, some(1))
	old := [][]byte{some(1)}
	for gen := uint32(2); gen < 760; gen++ { // three times through the heads' marks
		first, next := some(int(gen%300)), some(int(gen%7))
		turned(t, r, first)
		wantReel(t, "Turn", d, r, gen, first)
		before := blank(9).with(gen-1, true, old...)
		wantImage(t, "Turn", lasting(t, d), before.with(gen, true, first))
		appended(t, r, next)
		flushed(t, r)
		wantImage(t, "Append", lasting(t, d), before.with(gen, true, first, next))
		wantOpen(t, "turned", d.Copy(), gen, first, next)
		old = [][]byte{first, next}
	}
}

func TestOpenOfAnyGeneration(t *testing.T) {
	for _, gen := range []uint32{1, 2, 249, 250, 251, 252, 253, 255, 256, 257, 502, 503, 65535, 65536, 1 << 24, 1<<31 - 1, 1 << 31} {
		for _, n := range []int{8, 11} {
			l := [][]byte{some(3), some(247), nil}
			if n == 8 {
				l = l[:2]
			}
			m := blank(n).with(gen, true, l...)
			wantOpen(t, "laid", m.drum(t), gen, l...)
			m[gen%2] = make([]byte, 256)
			wantNoOpen(t, "without a head", m.drum(t), api.ErrNone)
		}
	}
}

// P15.2: Make.

func TestMakeTellsTheFirstErrorThatHolds(t *testing.T) {
	for _, c := range []struct {
		n, size int
		want    api.Errno
	}{
		{1, 0, api.ErrArg}, {5, 0, api.ErrArg}, {5, 100001, api.ErrArg}, {2, 1000, api.ErrArg},
		{6, 100001, api.ErrLong}, {8192, 100001, api.ErrLong}, {789, 200000, api.ErrLong},
		{6, 501, api.ErrFull}, {7, 501, api.ErrFull}, {8, 755, api.ErrFull}, {600, 100000, api.ErrFull}, {788, 100000, api.ErrFull}, {789, 100000, api.ErrFull},
		{6, 500, api.OK}, {7, 500, api.OK}, {8, 754, api.OK}, {790, 100000, api.OK},
	} {
		d := made(t, c.n)
		d.Write(0, junk())
		r, err := reel.Make(d, make([]byte, c.size))
		wantCode(t, "Make", err, c.want)
		if c.want == api.OK {
			continue
		}
		if s, _ := d.Read(0); r != nil || d.Dirty() != 1 || !bytes.Equal(s, junk()) {
			t.Fatalf("Make of %d sectors, %d bytes: a reel, or a change, beside an error", c.n, c.size)
		}
	}
	for _, size := range []int{0, 100001} {
		r, err := reel.Make(nil, make([]byte, size))
		wantCode(t, "Make of nil", err, api.ErrNone)
		if r != nil {
			t.Fatal("a reel beside an error")
		}
	}
}

// step is a Write, or a Flush (at is -1), of a drum.
type step struct {
	at   int
	data []byte
}

// played is the drum behind the steps.
func played(t *testing.T, d *drum.Drum, l []step) *drum.Drum {
	t.Helper()
	d = d.Copy()
	for _, x := range l {
		if x.at < 0 {
			wantCode(t, "Flush", d.Flush(), api.OK)
		} else {
			wantCode(t, "Write", d.Write(x.at, x.data), api.OK)
		}
	}
	return d
}

// wantSteps: do writes and flushes just so, in that order, and tells ErrOff where the drum stops on the way.
func wantSteps(t *testing.T, what string, d *drum.Drum, do func(d *drum.Drum) error, l []step) {
	t.Helper()
	for n := range len(l) + 1 {
		got, want := d.Copy(), played(t, d, l[:n])
		got.Arm(n)
		err := do(got)
		if n < len(l) {
			wantCode(t, what+", off", err, api.ErrOff)
		} else {
			wantCode(t, what, err, api.OK)
		}
		if got.Dirty() != want.Dirty() {
			t.Fatalf("%s: %d writes behind %d steps, want %d", what, got.Dirty(), n, want.Dirty())
		}
		wantImage(t, what, seen(t, got), seen(t, want))
		wantImage(t, what+", flushed", lasting(t, got), lasting(t, want))
	}
}

func made1(first []byte) func(d *drum.Drum) error {
	return func(d *drum.Drum) error {
		r, err := reel.Make(d, first)
		if err == nil && r == nil || err != nil && r != nil {
			panic("a reel beside an error, or none without")
		}
		return err
	}
}

// recordSteps are the Writes of a generation's first record, its Flush, its head, and that one's Flush.
func recordSteps(n int, gen uint32, first []byte) []step {
	var l []step
	for k, s := range parts(gen, 0, first) {
		l = append(l, step{from(n, gen) + k, s})
	}
	return append(l, step{at: -1}, step{int(gen % 2), head(gen)}, step{at: -1})
}

func TestMakeStepByStep(t *testing.T) {
	first := some(300)
	wantSteps(t, "Make", made(t, 9), made1(first), append([]step{{at: -1}}, recordSteps(9, 1, first)...))
	m := blank(9)
	for _, i := range []int{0, 1, 3, 5, 8} { // heads, both halves, and the sector behind them
		m[i] = junk()
	}
	l := []step{{at: 0}, {at: 1}, {at: 3}, {at: 5}, {at: 8}, {at: -1}}
	d := m.drum(t)
	wantSteps(t, "Make anew", d, made1(first), append(l, recordSteps(9, 1, first)...))
	wantCode(t, "Write", d.Write(1, nil), api.OK) // noughts, though not flushed, are Clean
	wantCode(t, "Write", d.Write(2, junk()), api.OK)
	l[1].at = 2
	wantSteps(t, "Make over writes", d, made1(first), append(l, recordSteps(9, 1, first)...))
}

func TestMakeForgetsWhatWasThere(t *testing.T) {
	d := made(t, 10)
	r := wantMake(t, d, some(1))
	for k := range 6 {
		turned(t, r, some(k))
		appended(t, r, some(300))
	}
	wantMake(t, d, some(2))
	wantImage(t, "Make", lasting(t, d), blank(10).with(1, true, some(2)))
}

// P15.2: Open.

func TestOpenTellsTheFirstErrorThatHolds(t *testing.T) {
	r, err := reel.Open(nil)
	wantCode(t, "Open of nil", err, api.ErrNone)
	if r != nil {
		t.Fatal("a reel beside an error")
	}
	for n := 1; n < 6; n++ {
		wantNoOpen(t, "small", made(t, n), api.ErrArg)
		m := blank(n)
		m[0] = junk()
		wantNoOpen(t, "small, not Clean", m.drum(t), api.ErrArg)
	}
	wantNoOpen(t, "new", made(t, 6), api.ErrNone)
	m := blank(8).with(1, false, some(1))
	wantNoOpen(t, "no head", m.drum(t), api.ErrNone)
	for i := range 2 {
		m[i], m[1-i] = junk(), make([]byte, 256)
		wantNoOpen(t, "no right head", m.drum(t), api.ErrSum)
		m[i] = make([]byte, 256)
		m[i][100] = 1
		wantNoOpen(t, "no right head, nearly Clean", m.drum(t), api.ErrSum)
	}
	wantNoOpen(t, "no record", blank(8).with(1, true).drum(t), api.ErrForm)
	wantNoOpen(t, "no record of the greatest", blank(8).with(1, true, some(1)).with(2, true).drum(t), api.ErrForm)
}

// wrong is something that isn't right.
type wrong struct {
	what string
	data []byte
}

// wrongHeads are sectors that aren't right in the place of the head of a generation.
func wrongHeads(gen uint32) []wrong {
	mark, body := byte(gen%251+1), head(gen)[1:255]
	l := []wrong{
		{"marked by another at both ends", sector(mark+1, body)},
		{"marked by one less at both ends", sector(mark-1, body)},
		{"marked by a5", sector(0xa5, body)},
		{"marked by noughts", sector(0, body)},
		{"another seed", sector(mark, frame(gen, low(gen)))},
		{"three bytes", sector(mark, frame(0, low(gen)[:3]))},
		{"five bytes", sector(mark, frame(0, append(low(gen), 0)))},
		{"no bytes", sector(mark, frame(0, nil))},
		{"too many bytes", sector(mark, bytes.Repeat([]byte{0xff}, 254))},
		{"nothing between", sector(mark, nil)},
		{"in another place", head(gen + 1)},
	}
	for _, at := range []int{0, 255} {
		for _, m := range []byte{0, 255, mark - 1, mark + 1, mark ^ 0x80} {
			s := head(gen)
			s[at] = m
			l = append(l, wrong{fmt.Sprintf("the byte %d is %02x", at, m), s})
		}
	}
	for bit := 8; bit < 13*8; bit++ {
		s := head(gen)
		s[bit/8] ^= 1 << (bit % 8)
		l = append(l, wrong{fmt.Sprintf("turned at the bit %d", bit), s})
	}
	return l
}

func TestOpenOfHeadsThatAreNotRight(t *testing.T) {
	for _, gen := range []uint32{1, 2, 7, 250, 251, 252, 1 << 20} {
		for _, x := range wrongHeads(gen) {
			m := blank(8).with(gen, true, some(1))
			m[gen%2] = x.data
			wantNoOpen(t, x.what, m.drum(t), api.ErrSum)
			if gen > 1 { // then it is the other one's
				wantOpen(t, x.what, m.with(gen-1, true, some(2)).drum(t), gen-1, some(2))
			}
		}
	}
	zero := blank(8).with(0, true, some(1))
	wantNoOpen(t, "generation 0", zero.drum(t), api.ErrSum)
}

func TestOpenAsksNotWhatIsBehindAHeadsFrame(t *testing.T) {
	m := blank(8).with(3, true, some(1))
	for k := 13; k < 255; k++ {
		m[1][k] = 0xee
	}
	wantOpen(t, "bytes behind the Frame", m.drum(t), 3, some(1))
}

func TestOpenTakesTheGreatestGeneration(t *testing.T) {
	for _, c := range []struct{ a, b uint32 }{{1, 2}, {2, 3}, {2, 9}, {251, 252}, {250, 251}, {256, 511}, {1<<31 - 1, 1 << 31}, {1, 1 << 31}, {0x00ff0000, 0x01000001}} {
		m := blank(8).with(c.a, true, some(1), some(2)).with(c.b, true, some(3))
		d := m.drum(t)
		wantOpen(t, "two heads", d, c.b, some(3))
		wantImage(t, "two heads", seen(t, d), m)
	}
}

// damaged are sectors that aren't right from the place of the third record on, some(600) in three sectors.
func damaged() []wrong {
	third := parts(5, 2, some(600))
	join := func(l [][]byte) []byte { return bytes.Join(l, nil) }
	l := []wrong{
		{"of another place", join(parts(5, 3, some(600)))},
		{"of another generation", join(parts(3, 2, some(600)))},
		{"of the next generation", join(parts(6, 2, some(600)))},
		{"without its first sector", join(third[1:])},
		{"without its middle", join([][]byte{third[0], third[2]})},
		{"a byte shorter", sector(0xa5, append(low(599), third[0][5:255]...))},
		{"longer than the half", sector(0xa5, append(low(100000), third[0][5:255]...))},
		{"longer than any", sector(0xa5, append(low(0xffffffff), third[0][5:255]...))},
		{"noughts between marks", sector(0xa5, nil)},
	}
	for k := range third {
		change := func(what string, s []byte) {
			m := append([][]byte{}, third...)
			m[k] = s
			l = append(l, wrong{fmt.Sprintf("the part %d %s", k, what), join(m)})
		}
		body := third[k][1:255]
		change("Clean", make([]byte, 256))
		change("marked by another", sector(0xa4, body))
		change("marked by noughts", sector(0, body))
		for _, at := range []int{0, 5, 60, 255} {
			s := bytes.Clone(third[k])
			s[at] ^= 0x40
			change(fmt.Sprintf("turned in the byte %d", at), s)
		}
	}
	return l
}

func TestOpenGoesUpToTheFirstRecordThatIsNotRight(t *testing.T) {
	whole := blank(18).with(5, true, some(1), some(247), some(600), some(4))
	for _, x := range damaged() {
		m := append(image{}, whole...)
		for k := range len(x.data) / 256 {
			m[from(18, 5)+3+k] = x.data[256*k:][:256]
		}
		d := m.drum(t)
		r := wantOpen(t, x.what, d, 5, some(1), some(247))
		want := blank(18).with(5, true, some(1), some(247))
		wantImage(t, x.what, lasting(t, d), want)
		if d.Dirty() != 0 {
			t.Fatalf("%s: %d writes aren't flushed", x.what, d.Dirty())
		}
		appended(t, r, some(5))
		wantImage(t, x.what, seen(t, d), want.with(5, true, some(1), some(247), some(5)))
	}
}

func TestARecordHasASectorOfItsOwn(t *testing.T) {
	m := blank(10).with(1, true, some(1), nil, some(2))
	at := from(10, 1) + 1
	copy(m[at][9:], frame(check(1, low(2)), some(3)))
	wantOpen(t, "bytes behind a Frame", m.drum(t), 1, some(1), nil, some(2))
}

func TestOpenAsksNotWhatIsBehindARecordsFrame(t *testing.T) {
	l := [][]byte{some(1), nil, some(300)}
	m := blank(12).with(1, true, l...)
	for _, at := range []int{0, 1, 3} {
		s := m[from(12, 1)+at]
		for k := 1 + 8 + 300%254; k < 255; k++ {
			s[k] = 0xdd
		}
	}
	d := m.drum(t)
	wantOpen(t, "bytes behind Frames", d, 1, l...)
	wantImage(t, "bytes behind Frames", seen(t, d), m)
}

func TestOpenOfARecordThatIsTooLong(t *testing.T) {
	m := blank(1000).with(2, true, some(1), some(100001), some(2))
	wantOpen(t, "too long", m.drum(t), 2, some(1))
	m = blank(1000).with(2, true, some(1), some(100000), some(2))
	wantOpen(t, "as long as may be", m.drum(t), 2, some(1), some(100000), some(2))
}

func TestOpenOfARecordUpToTheHalfsEnd(t *testing.T) {
	for _, gen := range []uint32{1, 2} {
		for _, n := range []int{12, 13} {
			m := blank(n).with(gen, true, some(246), some(4*254-8))
			r := wantOpen(t, "full", m.drum(t), gen, some(246), some(4*254-8))
			wantCode(t, "Append", r.Append(nil), api.ErrFull)
		}
	}
	// over the end of the first half, into marked sectors of the second one
	m := blank(12).with(2, true, some(1))
	for k, s := range parts(2, 1, some(4*254-7)) {
		m[3+k] = s
	}
	d := m.drum(t)
	wantOpen(t, "over the end", d, 2, some(1))
	want := append(blank(12).with(2, true, some(1))[:7], m[7:]...)
	wantImage(t, "over the end", lasting(t, d), want)
}

func opened(d *drum.Drum) error {
	r, err := reel.Open(d)
	if err == nil && r == nil || err != nil && r != nil {
		panic("a reel beside an error, or none without")
	}
	return err
}

func TestOpenStepByStep(t *testing.T) {
	m := blank(15).with(4, true, some(1), some(300)).with(3, true, some(2), some(3))
	wantSteps(t, "Open", m.drum(t), opened, nil)
	m[14] = junk() // behind the halves: it is let be
	wantSteps(t, "Open", m.drum(t), opened, nil)
	m[5], m[7] = junk(), junk()
	wantSteps(t, "Open, two to clean", m.drum(t), opened, []step{{at: 5}, {at: 7}, {at: -1}})
	m[5] = make([]byte, 256)
	wantSteps(t, "Open, one to clean", m.drum(t), opened, []step{{at: 7}, {at: -1}})
}

func TestOpenReadsWhatIsNotFlushed(t *testing.T) {
	d := made(t, 12)
	r := wantMake(t, d, some(1))
	appended(t, r, some(2), some(300))
	wantSteps(t, "Open", d, opened, nil)
	wantOpen(t, "not flushed", d, 1, some(1), some(2), some(300))
	if d.Dirty() != 3 {
		t.Fatalf("Dirty() = %d", d.Dirty())
	}
}

func TestOpenFindsARecordOfNothingWhoseFrameIsNoughts(t *testing.T) {
	blanks := 0
	for i := 1; i < 40 && blanks < 6; i++ {
		gen := blankGen(uint32(i))
		if gen == 0 || gen > 1<<31 {
			continue
		}
		blanks++
		l := make([][]byte, i+1)
		m := blank(100).with(gen, true, l...)
		if !bytes.Equal(m[from(100, gen)+i], sector(0xa5, nil)) {
			t.Fatalf("the record %d of generation %d isn't noughts", i, gen)
		}
		d := m.drum(t)
		wantOpen(t, "a Frame of noughts", d, gen, l...)
		wantImage(t, "a Frame of noughts", seen(t, d), m)
		l = append(l, some(1))
		wantOpen(t, "a Frame of noughts ahead of another", m.with(gen, true, l...).drum(t), gen, l...)
	}
	if blanks == 0 {
		t.Fatal("no such generation")
	}
}

// blankGen is the generation whose record i of nothing is a Frame of noughts, found by taking the checks back, bit by bit.
func blankGen(i uint32) uint32 {
	seed := ^back(back(0xffffffff))
	return ^back(back(^seed) ^ i)
}

// back takes CRC-32 back through four noughts.
func back(sum uint32) uint32 {
	for range 32 {
		if sum>>31 == 1 {
			sum = (sum^0xedb88320)<<1 | 1
		} else {
			sum <<= 1
		}
	}
	return sum
}

// P15.3: Append and Flush.

func TestAppendTellsTheFirstErrorThatHolds(t *testing.T) {
	d := made(t, 12) // five sectors a half
	r := wantMake(t, d, some(300))
	for _, c := range []struct {
		size int
		want api.Errno
	}{{100001, api.ErrLong}, {1 << 20, api.ErrLong}, {100000, api.ErrFull}, {755, api.ErrFull}, {1000, api.ErrFull}} {
		before, dirty := seen(t, d), d.Dirty()
		for _, armed := range []int{0, -1} { // ahead of the drum's error
			d.Arm(armed)
			wantCode(t, "Append", r.Append(make([]byte, c.size)), c.want)
		}
		wantReel(t, "refused", d, r, 1, some(300))
		wantImage(t, "refused", seen(t, d), before)
		if d.Dirty() != dirty {
			t.Fatal("a write beside an error")
		}
	}
	appended(t, r, some(754))
	wantReel(t, "full", d, r, 1, some(300), some(754))
	wantCode(t, "Append", r.Append(nil), api.ErrFull)
	wantCode(t, "Append", r.Append(make([]byte, 100001)), api.ErrLong)
	flushed(t, r)
	wantOpen(t, "full", d, 1, some(300), some(754))
}

func TestAppendAndFlushTellTheDrumsErrors(t *testing.T) {
	for n := range 3 {
		d := made(t, 12)
		r := wantMake(t, d, nil)
		d.Arm(n)
		wantCode(t, "Append", r.Append(some(600)), api.ErrOff)
		if d.Dirty() != n {
			t.Fatalf("Dirty() = %d, want %d", d.Dirty(), n)
		}
	}
	d := made(t, 12)
	r := wantMake(t, d, nil)
	d.Arm(3)
	appended(t, r, some(600))
	wantCode(t, "Flush", r.Flush(), api.ErrOff)
	if d.Dirty() != 3 {
		t.Fatalf("Dirty() = %d", d.Dirty())
	}
	d.Arm(2)
	flushed(t, r)
	flushed(t, r)
	wantCode(t, "Flush", r.Flush(), api.ErrOff)
	wantOpen(t, "flushed", d.Fall(nil, -1), 1, nil, some(600))
}

// P15.3: Turn.

func TestTurnStepByStep(t *testing.T) {
	m := blank(13).with(6, true, some(1), some(2))
	m[12] = junk() // behind the halves: it is let be
	for _, size := range []int{0, 300, 1262} {
		turn := func(d *drum.Drum) error {
			r, err := reel.Open(d) // it has nothing to write here: all steps are Turn's
			wantCode(t, "Open", err, api.OK)
			return r.Turn(some(size))
		}
		wantSteps(t, "Turn", m.drum(t), turn, recordSteps(13, 7, some(size)))
		x := append(image{}, m...)
		x[7], x[9], x[11] = junk(), junk(), junk()
		l := []step{{at: 7}, {at: 9}, {at: 11}}
		wantSteps(t, "Turn over", x.drum(t), turn, append(l, recordSteps(13, 7, some(size))...))
		d := x.drum(t)
		wantCode(t, "Write", d.Write(4, parts(6, 2, some(3))[0]), api.OK) // a record that isn't flushed
		wantSteps(t, "Turn over, writes", d, turn, append(l, recordSteps(13, 7, some(size))...))
	}
}

func TestTurnTellsTheFirstErrorThatHolds(t *testing.T) {
	for _, c := range []struct {
		gen  uint32
		size int
		want api.Errno
	}{
		{1, 100001, api.ErrLong}, {1, 1263, api.ErrFull}, {1, 100000, api.ErrFull},
		{1 << 31, 100001, api.ErrLong}, {1 << 31, 1263, api.ErrFull}, {1 << 31, 1262, api.ErrOver}, {1 << 31, 0, api.ErrOver},
		{1, 1262, api.OK}, {1<<31 - 1, 1262, api.OK}, {1<<31 - 2, 0, api.OK},
	} {
		m := blank(12).with(c.gen, true, some(1), some(2))
		m[from(12, c.gen+1)] = junk()
		d := m.drum(t)
		r := wantOpen(t, "laid", d, c.gen, some(1), some(2))
		if c.want == api.OK {
			turned(t, r, some(c.size))
			wantReel(t, "turned", d, r, c.gen+1, some(c.size))
			wantOpen(t, "turned", d.Fall(nil, -1), c.gen+1, some(c.size))
			continue
		}
		d.Arm(0) // ahead of the drum's error
		wantCode(t, "Turn", r.Turn(make([]byte, c.size)), c.want)
		wantReel(t, "refused", d, r, c.gen, some(1), some(2))
		wantImage(t, "refused", seen(t, d), m)
	}
}

func TestTurnIsOfTheOtherHalf(t *testing.T) {
	d := made(t, 12)
	r := wantMake(t, d, some(1))
	appended(t, r, some(4*254-8)) // this half is full
	wantCode(t, "Append", r.Append(nil), api.ErrFull)
	turned(t, r, some(1262))
	wantReel(t, "turned", d, r, 2, some(1262))
	wantCode(t, "Append", r.Append(nil), api.ErrFull)
	turned(t, r, nil)
	appended(t, r, nil, some(2))
	wantReel(t, "turned", d, r, 3, nil, nil, some(2))
}

// The rules.

func TestNilReel(t *testing.T) {
	var r *reel.Reel
	for _, size := range []int{0, 1, 100001} {
		wantCode(t, "Append", r.Append(make([]byte, size)), api.ErrNone)
		wantCode(t, "Turn", r.Turn(make([]byte, size)), api.ErrNone)
	}
	wantCode(t, "Flush", r.Flush(), api.ErrNone)
	if r.Records() != nil || r.Count() != 0 || r.Gen() != 0 || r.Room() != 0 {
		t.Fatal("a nil reel has something")
	}
}

// P1: nothing is promised of a zero value but an end without panic.
func TestZeroReel(t *testing.T) {
	r := &reel.Reel{}
	for range 2 {
		_, _, _, _ = r.Records(), r.Count(), r.Gen(), r.Room()
		_, _, _ = r.Append(nil), r.Turn(some(300)), r.Flush()
	}
	_, _ = reel.Make(&drum.Drum{}, nil)
	_, _ = reel.Open(&drum.Drum{})
}

func TestNothingIsShared(t *testing.T) {
	d := made(t, 12)
	room := []byte("first and spare")
	r, err := reel.Make(d, room[:5])
	wantCode(t, "Make", err, api.OK)
	wantCode(t, "Append", r.Append(room[6:9]), api.OK)
	if string(room) != "first and spare" {
		t.Fatalf("what was handed in is %q now", room)
	}
	clear(room)
	want := [][]byte{[]byte("first"), []byte("and")}
	wantReel(t, "written over", d, r, 1, want...)
	for _, x := range []*reel.Reel{r, wantOpen(t, "opened", d, 1, want...)} {
		a, b := x.Records(), x.Records()
		for _, p := range a {
			clear(p[:cap(p)])
		}
		_ = append(a[:1], []byte("over"))
		a[0] = nil
		for i, p := range b {
			if !bytes.Equal(p, want[i]) {
				t.Fatalf("an earlier answer is %q now", p)
			}
		}
		wantReel(t, "written over", d, x, 1, want...)
	}
	turn := []byte("turned")
	turned(t, r, turn)
	clear(turn)
	wantReel(t, "written over", d, r, 2, []byte("turned"))
	wantOpen(t, "written over", d, 2, []byte("turned"))
}

func TestRecordsOfAReelAreItsOwn(t *testing.T) {
	d := made(t, 12)
	r := wantMake(t, d, some(1))
	a := r.Records()
	appended(t, r, some(2))
	b := r.Records()
	turned(t, r, some(3))
	if len(a) != 1 || len(b) != 2 || !bytes.Equal(a[0], some(1)) || !bytes.Equal(b[1], some(2)) {
		t.Fatal("an earlier answer has changed")
	}
}
