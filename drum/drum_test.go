package drum_test

import (
	"bytes"
	"math"
	"testing"

	"arrears/api"
	"arrears/drum"
)

// padded is what a sector is behind a write of p.
func padded(p string) []byte {
	s := make([]byte, 256)
	copy(s, p)
	return s
}

func made(t *testing.T, n int) *drum.Drum {
	t.Helper()
	d, err := drum.New(n)
	if err != nil || d == nil {
		t.Fatalf("New(%d): %v, %v", n, d, err)
	}
	return d
}

func wantCode(t *testing.T, what string, err error, want api.Errno) {
	t.Helper()
	if got := api.Code(err); got != want {
		t.Fatalf("%s: error %d, want %d", what, got, want)
	}
}

func write(t *testing.T, d *drum.Drum, i int, p string) {
	t.Helper()
	wantCode(t, "Write", d.Write(i, []byte(p)), api.OK)
}

func flush(t *testing.T, d *drum.Drum) {
	t.Helper()
	wantCode(t, "Flush", d.Flush(), api.OK)
}

// wantRead: the sector i begins with want, and has noughts behind it.
func wantRead(t *testing.T, d *drum.Drum, i int, want string) {
	t.Helper()
	p, err := d.Read(i)
	if err != nil || !bytes.Equal(p, padded(want)) {
		t.Fatalf("Read(%d) = %q, %v, want %q", i, p, err, want)
	}
}

func wantDirty(t *testing.T, d *drum.Drum, want int) {
	t.Helper()
	if got := d.Dirty(); got != want {
		t.Fatalf("Dirty() = %d, want %d", got, want)
	}
}

// whole is all that a drum reads.
func whole(t *testing.T, d *drum.Drum) []byte {
	t.Helper()
	var all []byte
	for i := range d.Size() {
		p, err := d.Read(i)
		if err != nil || len(p) != 256 {
			t.Fatalf("Read(%d): %d bytes, %v", i, len(p), err)
		}
		all = append(all, p...)
	}
	return all
}

// P1.1: New.

func TestNewMakesSectorsOfNoughts(t *testing.T) {
	for _, n := range []int{1, 2, 600, 8191, 8192} {
		d := made(t, n)
		if d.Size() != n {
			t.Fatalf("Size() = %d, want %d", d.Size(), n)
		}
		wantDirty(t, d, 0)
		for _, i := range []int{0, n / 2, n - 1} {
			wantRead(t, d, i, "")
		}
	}
}

func TestNewRefusesSizes(t *testing.T) {
	for _, n := range []int{0, -1, 8193, 1 << 20, math.MaxInt, math.MinInt} {
		d, err := drum.New(n)
		wantCode(t, "New", err, api.ErrArg)
		if d != nil {
			t.Fatalf("New(%d): a drum beside an error", n)
		}
	}
}

// P1.1: Write and Read.

func TestWriteIsTheSectorWithNoughtsBehind(t *testing.T) {
	d := made(t, 4)
	full := string(bytes.Repeat([]byte{'x'}, 256))
	for _, p := range []string{full, "ab", full[:255], "", full, "\x00b"} {
		write(t, d, 2, p)
		wantRead(t, d, 2, p)
		wantRead(t, d, 1, "")
		wantRead(t, d, 3, "")
	}
	wantCode(t, "Write of nil", d.Write(2, nil), api.OK)
	wantRead(t, d, 2, "")
	wantDirty(t, d, 7)
}

func TestReadIsAsTheLastWriteHasIt(t *testing.T) {
	d := made(t, 3)
	write(t, d, 0, "one")
	write(t, d, 1, "other")
	write(t, d, 0, "two")
	wantRead(t, d, 0, "two")
	wantRead(t, d, 1, "other")
	flush(t, d)
	wantRead(t, d, 0, "two")
	wantRead(t, d, 1, "other")
	write(t, d, 0, "three")
	wantRead(t, d, 0, "three")
	wantRead(t, d, 2, "")
}

func TestWriteTellsTheFirstErrorThatHolds(t *testing.T) {
	d := made(t, 4)
	write(t, d, 0, "kept")
	before := whole(t, d)
	long := make([]byte, 257)
	for _, armed := range []int{-1, 1, 0} {
		d.Arm(armed)
		for _, i := range []int{-1, 4, 5, math.MaxInt, math.MinInt} {
			wantCode(t, "Write beyond", d.Write(i, nil), api.ErrIndex)
			wantCode(t, "Write beyond, too long", d.Write(i, long), api.ErrIndex)
		}
		wantCode(t, "Write too long", d.Write(0, long), api.ErrLong)
		wantCode(t, "Write far too long", d.Write(3, make([]byte, 100000)), api.ErrLong)
	}
	wantCode(t, "Write, off", d.Write(0, make([]byte, 256)), api.ErrOff)
	wantDirty(t, d, 1)
	if !bytes.Equal(whole(t, d), before) {
		t.Fatal("what was refused has changed a sector")
	}
}

func TestReadRefusesSectors(t *testing.T) {
	d := made(t, 4)
	for _, i := range []int{-1, 4, math.MaxInt, math.MinInt} {
		p, err := d.Read(i)
		wantCode(t, "Read", err, api.ErrIndex)
		if len(p) != 0 {
			t.Fatalf("Read(%d): %d bytes beside an error", i, len(p))
		}
	}
}

func TestWhatIsHandedInAndOutIsNotShared(t *testing.T) {
	d := made(t, 2)
	room := []byte("handed in, spare")
	wantCode(t, "Write", d.Write(1, room[:6]), api.OK)
	if string(room) != "handed in, spare" {
		t.Fatalf("what was handed in is %q now", room)
	}
	copy(room, "XXXXXXXX")
	wantRead(t, d, 1, "handed")
	for range 2 { // not flushed, then flushed
		a, _ := d.Read(1)
		b, _ := d.Read(1)
		a[0], a[255] = 'X', 'X'
		_ = append(a, "over the end"...)
		if !bytes.Equal(b, padded("handed")) {
			t.Fatalf("an earlier answer is %q now", b)
		}
		wantRead(t, d, 1, "handed")
		flush(t, d)
	}
	a, _ := d.Read(1)
	write(t, d, 1, "next")
	flush(t, d)
	if !bytes.Equal(a, padded("handed")) {
		t.Fatalf("an earlier answer is %q now", a)
	}
}

// P1.1: Flush.

func TestFlushFlushesAllWritesInOrder(t *testing.T) {
	d := made(t, 3)
	write(t, d, 0, "first, and longer")
	write(t, d, 2, "two")
	write(t, d, 0, "last")
	wantDirty(t, d, 3)
	left := d.Fall(nil, -1)
	for i := range 3 {
		wantRead(t, left, i, "")
	}
	flush(t, d)
	wantDirty(t, d, 0)
	left = d.Fall(nil, -1)
	wantRead(t, left, 0, "last")
	wantRead(t, left, 1, "")
	wantRead(t, left, 2, "two")
	flush(t, d)
	wantDirty(t, d, 0)
	wantRead(t, d, 0, "last")
	write(t, d, 1, "later")
	wantDirty(t, d, 1)
	wantRead(t, d.Fall(nil, -1), 1, "")
	flush(t, d)
	wantRead(t, d.Fall(nil, -1), 1, "later")
	wantRead(t, d.Fall(nil, -1), 0, "last")
}

// P1.1: Arm.

func TestArmLetsSoManyGoWell(t *testing.T) {
	for n := range 6 {
		d := made(t, 2)
		d.Arm(n)
		for k := range n {
			if k%2 == 0 {
				write(t, d, 0, "fine")
			} else {
				flush(t, d)
			}
		}
		dirty, before := d.Dirty(), whole(t, d)
		for range 3 {
			wantCode(t, "Write", d.Write(1, []byte("off")), api.ErrOff)
			wantCode(t, "Flush", d.Flush(), api.ErrOff)
		}
		wantDirty(t, d, dirty)
		if !bytes.Equal(whole(t, d), before) {
			t.Fatalf("Arm(%d): a Write that was off did something", n)
		}
	}
}

func TestFlushThatIsOffFlushesNothing(t *testing.T) {
	d := made(t, 2)
	write(t, d, 0, "pending")
	d.Arm(0)
	wantCode(t, "Flush", d.Flush(), api.ErrOff)
	wantDirty(t, d, 1)
	wantRead(t, d.Fall(nil, -1), 0, "")
	wantRead(t, d, 0, "pending")
}

func TestArmDoesNotCountOtherErrorsOrOtherCalls(t *testing.T) {
	d := made(t, 2)
	d.Arm(2)
	for range 5 {
		wantCode(t, "Write", d.Write(2, nil), api.ErrIndex)
		wantCode(t, "Write", d.Write(-1, nil), api.ErrIndex)
		wantCode(t, "Write", d.Write(0, make([]byte, 257)), api.ErrLong)
		wantCode(t, "Turn", d.Turn(1, 0, 0), api.OK)
		_, err := d.Read(0)
		wantCode(t, "Read", err, api.OK)
		d.Clean(0)
		d.Size()
		d.Dirty()
		d.Copy()
		d.Fall(nil, 0)
	}
	write(t, d, 0, "a")
	flush(t, d)
	wantCode(t, "Write", d.Write(0, nil), api.ErrOff)
	wantCode(t, "Turn, off", d.Turn(0, 0, 2), api.OK)
	wantRead(t, d, 0, "c")
	if d.Clean(0) || !d.Clean(1) {
		t.Fatal("Clean, off")
	}
}

func TestArmHoldsTillTheNextArm(t *testing.T) {
	d := made(t, 1)
	for range 50 { // at first all go well
		write(t, d, 0, "free")
		flush(t, d)
	}
	for _, free := range []int{-1, -2, math.MinInt} {
		d.Arm(0)
		wantCode(t, "Write", d.Write(0, nil), api.ErrOff)
		d.Arm(free)
		for range 50 {
			write(t, d, 0, "free")
			flush(t, d)
		}
	}
	d.Arm(9)
	d.Arm(1)
	flush(t, d)
	wantCode(t, "Flush", d.Flush(), api.ErrOff)
	d.Arm(2)
	flush(t, d)
	flush(t, d)
	wantCode(t, "Flush", d.Flush(), api.ErrOff)
	d.Arm(math.MaxInt)
	flush(t, d)
}

// P1.2: Fall.

func TestFallKeepsTheWritesWhosePlaceIsTrue(t *testing.T) {
	d := made(t, 4)
	write(t, d, 0, "flushed")
	flush(t, d)
	write(t, d, 1, "one")
	write(t, d, 0, "two")
	write(t, d, 1, "three")
	for _, c := range []struct {
		keep       []bool
		zero, ones string
	}{
		{nil, "flushed", ""},
		{[]bool{}, "flushed", ""},
		{[]bool{false, false, false}, "flushed", ""},
		{[]bool{true}, "flushed", "one"},
		{[]bool{false, true}, "two", ""},
		{[]bool{false, false, true}, "flushed", "three"},
		{[]bool{true, false, true}, "flushed", "three"},
		{[]bool{true, true, false}, "two", "one"},
		{[]bool{true, true, true}, "two", "three"},
		{[]bool{true, false, false, true, true}, "flushed", "one"},
	} {
		f := d.Fall(c.keep, -1)
		if f.Size() != 4 {
			t.Fatalf("Size() = %d", f.Size())
		}
		wantDirty(t, f, 0)
		wantRead(t, f, 0, c.zero)
		wantRead(t, f, 1, c.ones)
		wantRead(t, f, 2, "")
		// nothing is left to be flushed: a further Fall finds all of it
		wantRead(t, f.Fall(nil, -1), 0, c.zero)
		wantRead(t, f.Fall(nil, -1), 1, c.ones)
	}
}

func TestFallTearsTheLastWriteThatIsKept(t *testing.T) {
	d := made(t, 3)
	write(t, d, 0, "oldest")
	write(t, d, 1, "beside")
	flush(t, d)
	write(t, d, 0, "MID")
	write(t, d, 1, "NEXT")
	write(t, d, 0, "L")
	all := []bool{true, true, true}
	for _, c := range []struct {
		keep       []bool
		torn       int
		zero, ones string
	}{
		{all, 0, "MID", "NEXT"}, // what was there is what the writes that are kept have left
		{all, 1, "LID", "NEXT"},
		{all, 2, "L\x00D", "NEXT"}, // the noughts behind the bytes are part of the write
		{all, 3, "L", "NEXT"},
		{all, 256, "L", "NEXT"},
		{all, 257, "L", "NEXT"},
		{all, -1, "L", "NEXT"},
		{all, math.MaxInt, "L", "NEXT"},
		{all, math.MinInt, "L", "NEXT"},
		{[]bool{true, true}, 1, "MID", "Neside"},
		{[]bool{true, true, false, true}, 1, "MID", "Neside"}, // no write has the place 3
		{[]bool{true, false, false}, 2, "MIdest", "beside"},
		{[]bool{true}, 5, "MID\x00\x00t", "beside"},
		{[]bool{true}, 0, "oldest", "beside"},
		{[]bool{false, false, true}, 1, "Lldest", "beside"},
		{[]bool{false, true, true}, 4, "L\x00\x00\x00st", "NEXT"},
		{nil, 1, "oldest", "beside"},
		{[]bool{false, false, false, true}, 1, "oldest", "beside"},
	} {
		f := d.Fall(c.keep, c.torn)
		wantRead(t, f, 0, c.zero)
		wantRead(t, f, 1, c.ones)
		wantRead(t, f, 2, "")
		wantDirty(t, f, 0)
	}
}

func TestFallTearsAtTheSectorsEnd(t *testing.T) {
	d := made(t, 1)
	write(t, d, 0, string(bytes.Repeat([]byte{'a'}, 256)))
	flush(t, d)
	write(t, d, 0, string(bytes.Repeat([]byte{'b'}, 256)))
	for _, torn := range []int{0, 1, 128, 254, 255, 256, 257} {
		b := min(torn, 256)
		want := append(bytes.Repeat([]byte{'b'}, b), bytes.Repeat([]byte{'a'}, 256-b)...)
		wantRead(t, d.Fall([]bool{true}, torn), 0, string(want))
	}
}

func TestFallLeavesThisDrumAsItIs(t *testing.T) {
	d := made(t, 2)
	write(t, d, 0, "flushed")
	flush(t, d)
	write(t, d, 0, "pending")
	write(t, d, 1, "too")
	d.Arm(1)
	keep := []bool{true, false, true}
	f := d.Fall(keep, 2)
	if !keep[0] || keep[1] || !keep[2] {
		t.Fatalf("keep is %v now", keep)
	}
	wantDirty(t, d, 2)
	wantRead(t, d, 0, "pending")
	wantRead(t, d, 1, "too")
	for range 20 { // the new one isn't armed, and is another one
		write(t, f, 0, "new")
		flush(t, f)
	}
	wantCode(t, "Turn", f.Turn(1, 0, 1), api.OK)
	wantRead(t, d, 0, "pending")
	wantRead(t, d, 1, "too")
	wantRead(t, d.Fall(nil, -1), 0, "flushed")
	wantRead(t, d.Fall(nil, -1), 1, "")
	flush(t, d)
	wantCode(t, "Flush", d.Flush(), api.ErrOff)
	wantRead(t, f, 0, "new")
	wantRead(t, f, 1, "\x01")
}

func TestFallOfADrumThatIsOffIsNotArmed(t *testing.T) {
	d := made(t, 2)
	write(t, d, 1, "kept")
	d.Arm(0)
	f := d.Fall([]bool{true}, -1)
	wantRead(t, f, 1, "kept")
	write(t, f, 0, "more")
	flush(t, f)
	wantCode(t, "Flush", d.Flush(), api.ErrOff)
}

func TestFallExample(t *testing.T) {
	d := made(t, 8)
	write(t, d, 3, "hi")
	wantRead(t, d.Fall([]bool{true}, 1), 3, "h")
}

// P1.2: Clean.

func TestCleanIsOfTheSectorAsRead(t *testing.T) {
	d := made(t, 3)
	for i := range 3 {
		if !d.Clean(i) {
			t.Fatalf("Clean(%d) of a new drum", i)
		}
	}
	for k := range 256 {
		p := make([]byte, 256)
		p[k] = 0x80
		write(t, d, 1, string(p))
		if d.Clean(1) || !d.Clean(0) || !d.Clean(2) {
			t.Fatalf("byte %d: Clean %v %v %v", k, d.Clean(0), d.Clean(1), d.Clean(2))
		}
	}
	flush(t, d)
	if d.Clean(1) {
		t.Fatal("Clean of a flushed sector")
	}
	write(t, d, 1, "")
	if !d.Clean(1) {
		t.Fatal("noughts that aren't flushed are noughts, too")
	}
	if d.Fall(nil, -1).Clean(1) || !d.Fall([]bool{true}, -1).Clean(1) {
		t.Fatal("Clean behind a Fall")
	}
}

func TestCleanOfNoSector(t *testing.T) {
	d := made(t, 3)
	for _, i := range []int{-1, 3, math.MaxInt, math.MinInt} {
		if d.Clean(i) {
			t.Fatalf("Clean(%d)", i)
		}
	}
}

// P1.2: Turn.

// turned is p with the bits from bit on turned, bit by bit.
func turned(p []byte, bit int, mask uint32) []byte {
	q := bytes.Clone(p)
	for ; mask != 0 && bit < 2048; bit, mask = bit+1, mask/2 {
		if mask%2 == 1 {
			q[bit/8] ^= []byte{1, 2, 4, 8, 16, 32, 64, 128}[bit%8]
		}
	}
	return q
}

func TestTurnTurnsTheBitsOfTheMask(t *testing.T) {
	d := made(t, 3)
	before := make([]byte, 256)
	for k := range before {
		before[k] = byte(k * 7)
	}
	for i := range 3 {
		write(t, d, i, string(before))
	}
	flush(t, d)
	for bit := range 2048 {
		for _, mask := range []uint32{0, 1, 2, 0x80000000, 0x80000001, 0xffffffff, 0x00a50001, 0x12345678} {
			wantCode(t, "Turn", d.Turn(1, bit, mask), api.OK)
			wantRead(t, d, 1, string(turned(before, bit, mask)))
			wantCode(t, "Turn back", d.Turn(1, bit, mask), api.OK)
			wantRead(t, d, 1, string(before))
		}
	}
	wantRead(t, d, 0, string(before))
	wantRead(t, d, 2, string(before))
	wantDirty(t, d, 0)
}

func TestTurnOrderOfBits(t *testing.T) {
	d := made(t, 3)
	wantCode(t, "Turn", d.Turn(0, 0, 1), api.OK)
	wantCode(t, "Turn", d.Turn(0, 15, 5), api.OK)
	wantRead(t, d, 0, "\x01\x80\x02")
	wantCode(t, "Turn to the end", d.Turn(1, 2047, 0xffffffff), api.OK)
	p, _ := d.Read(1)
	if p[255] != 0x80 || p[0] != 0 || !d.Clean(2) {
		t.Fatalf("Turn at the end: %x", p)
	}
	wantCode(t, "Turn up to the end", d.Turn(2, 2017, 0xc0000001), api.OK)
	p, _ = d.Read(2)
	if p[252] != 2 || p[255] != 0x80 {
		t.Fatalf("Turn up to the end: %x", p)
	}
}

func TestTurnRefuses(t *testing.T) {
	d := made(t, 3)
	write(t, d, 1, "as it was")
	flush(t, d)
	before := whole(t, d)
	for _, i := range []int{-1, 3, math.MaxInt, math.MinInt} {
		wantCode(t, "Turn of no sector", d.Turn(i, 0, 1), api.ErrIndex)
	}
	for _, bit := range []int{-1, -8, 2048, 2049, math.MaxInt, math.MinInt} {
		wantCode(t, "Turn of no bit", d.Turn(1, bit, 0xffffffff), api.ErrIndex)
		wantCode(t, "Turn of no bit, no mask", d.Turn(1, bit, 0), api.ErrIndex)
	}
	if !bytes.Equal(whole(t, d), before) {
		t.Fatal("what was refused has changed a sector")
	}
}

func TestTurnIsOfTheFlushedSector(t *testing.T) {
	d := made(t, 2)
	write(t, d, 0, "a")
	flush(t, d)
	write(t, d, 0, "new")
	wantCode(t, "Turn", d.Turn(0, 0, 2), api.OK)
	wantDirty(t, d, 1)
	wantRead(t, d, 0, "new")
	wantRead(t, d.Fall(nil, -1), 0, "c")
	wantRead(t, d.Fall([]bool{true}, -1), 0, "new")
	wantRead(t, d.Fall([]bool{true}, 0), 0, "c")
	flush(t, d)
	wantRead(t, d, 0, "new")
	wantCode(t, "Turn", d.Turn(0, 0, 1), api.OK)
	wantRead(t, d, 0, "oew")
	wantRead(t, d.Fall(nil, -1), 0, "oew")
}

// P1.2: Copy.

func TestCopyIsAlikeAndAnotherOne(t *testing.T) {
	d := made(t, 3)
	write(t, d, 0, "flushed")
	write(t, d, 2, "stays")
	flush(t, d)
	write(t, d, 0, "pending")
	write(t, d, 1, "too")
	c := d.Copy()
	if c.Size() != 3 || !bytes.Equal(whole(t, c), whole(t, d)) {
		t.Fatal("Copy isn't alike")
	}
	wantDirty(t, c, 2)
	for _, keep := range [][]bool{nil, {true}, {false, true}, {true, true}} {
		if !bytes.Equal(whole(t, c.Fall(keep, 3)), whole(t, d.Fall(keep, 3))) {
			t.Fatalf("Fall(%v) of a copy isn't alike", keep)
		}
	}
	before := whole(t, d)
	write(t, c, 1, "copy's own")
	wantDirty(t, d, 2)
	flush(t, c)
	wantCode(t, "Turn", c.Turn(2, 0, 1), api.OK)
	wantDirty(t, d, 2)
	if !bytes.Equal(whole(t, d), before) {
		t.Fatal("a copy's write has changed the drum")
	}
	wantRead(t, d.Fall(nil, -1), 0, "flushed")
	write(t, d, 2, "drum's own")
	flush(t, d)
	wantRead(t, c, 1, "copy's own")
	wantRead(t, c, 2, "rtays")
	wantRead(t, c, 0, "pending")
}

func TestCopyThenBothGrow(t *testing.T) {
	d := made(t, 2)
	for range 3 { // so that the list of writes may have spare room
		write(t, d, 0, "same")
	}
	c := d.Copy()
	write(t, d, 1, "drum")
	write(t, c, 1, "copy")
	keep := []bool{false, false, false, true}
	wantRead(t, d.Fall(keep, -1), 1, "drum")
	wantRead(t, c.Fall(keep, -1), 1, "copy")
	wantRead(t, d, 1, "drum")
	wantRead(t, c, 1, "copy")
}

func TestCopyIsNotArmed(t *testing.T) {
	for _, n := range []int{0, 1} {
		d := made(t, 1)
		d.Arm(n)
		c := d.Copy()
		for range 10 {
			write(t, c, 0, "c")
			flush(t, c)
		}
		for range n {
			flush(t, d)
		}
		wantCode(t, "Flush", d.Flush(), api.ErrOff)
	}
}

// P1.2, P1: a nil drum.

func TestNilDrum(t *testing.T) {
	var d *drum.Drum
	for _, i := range []int{-1, 0, 1, math.MaxInt} {
		wantCode(t, "Write", d.Write(i, nil), api.ErrNone)
		wantCode(t, "Write", d.Write(i, make([]byte, 257)), api.ErrNone)
		p, err := d.Read(i)
		wantCode(t, "Read", err, api.ErrNone)
		wantCode(t, "Turn", d.Turn(i, -1, 1), api.ErrNone)
		if len(p) != 0 || d.Clean(i) || d.Fall([]bool{true}, i) != nil {
			t.Fatal("a nil drum has something")
		}
		d.Arm(i)
	}
	wantCode(t, "Flush", d.Flush(), api.ErrNone)
	if d.Size() != 0 || d.Dirty() != 0 || d.Copy() != nil || d.Fall(nil, 0) != nil {
		t.Fatal("a nil drum has something")
	}
}
