package reel_test

import (
	"bytes"
	"math/rand"
	"testing"

	"arrears/api"
	"arrears/drum"
	"arrears/reel"
)

// P15.4: whatever a Fall leaves.

// falls goes through what a stop of power may leave of a drum: each choice of the writes, whole or torn.
func falls(d *drum.Drum, each func(f *drum.Drum)) {
	n := d.Dirty()
	for choice := range 1 << n {
		keep := make([]bool, n)
		for k := range keep {
			keep[k] = choice>>k&1 == 1
		}
		for _, torn := range []int{-1, 0, 1, 2, 5, 9, 13, 14, 100, 254, 255, 256} {
			each(d.Fall(keep, torn))
		}
	}
}

func TestExampleOfTheChapter(t *testing.T) {
	d := made(t, 6+4)
	r := wantMake(t, d, []byte("first"))
	appended(t, r, []byte("a"))
	flushed(t, r)
	appended(t, r, []byte("b"))
	wantOpen(t, "fallen", d.Fall(nil, -1), 1, []byte("first"), []byte("a"))
}

func TestFallsOfRecords(t *testing.T) {
	all := [][]byte{some(1), some(2), some(300), nil, some(501)}
	d := made(t, 22)
	r := wantMake(t, d, all[0])
	appended(t, r, all[1])
	flushed(t, r)
	appended(t, r, all[2:]...)
	found := map[int]int{}
	falls(d, func(f *drum.Drum) {
		x, err := reel.Open(f)
		wantCode(t, "Open", err, api.OK)
		n := x.Count()
		if n < 2 || n > len(all) {
			t.Fatalf("%d records", n)
		}
		wantReel(t, "fallen", f, x, 1, all[:n]...)
		wantImage(t, "fallen", lasting(t, f), blank(22).with(1, true, all[:n]...))
		found[n]++
	})
	for n := 2; n <= len(all); n++ {
		if found[n] == 0 {
			t.Fatalf("no Fall left %d records", n)
		}
	}
}

// What a Fall has left takes further records, and falls again.
func TestFallsBehindFalls(t *testing.T) {
	all := [][]byte{some(1), some(2), some(3)}
	d := made(t, 10)
	appended(t, wantMake(t, d, all[0]), all[1:]...)
	falls(d, func(f *drum.Drum) {
		x, err := reel.Open(f)
		wantCode(t, "Open", err, api.OK)
		l := append(append([][]byte{}, all[:x.Count()]...), some(4))
		appended(t, x, some(4))
		falls(f, func(g *drum.Drum) {
			y, err := reel.Open(g)
			wantCode(t, "Open", err, api.OK)
			if y.Count() < len(l)-1 || y.Count() > len(l) {
				t.Fatalf("%d records, want %d or one fewer", y.Count(), len(l))
			}
			wantReel(t, "fallen twice", g, y, 1, l[:y.Count()]...)
		})
	})
}

// oldOrNew: behind a Fall there are the old generation's records, at least so many of them, or the new one.
func oldOrNew(t *testing.T, f *drum.Drum, gen uint32, least int, old [][]byte, first []byte) (isNew bool) {
	t.Helper()
	x, err := reel.Open(f)
	wantCode(t, "Open", err, api.OK)
	if x.Gen() == gen+1 {
		wantReel(t, "new", f, x, gen+1, first)
		return true
	}
	n := x.Count()
	if n < least || n > len(old) {
		t.Fatalf("%d records of the old generation, want %d to %d", n, least, len(old))
	}
	wantReel(t, "old", f, x, gen, old[:n]...)
	return false
}

func TestFallsOfATurn(t *testing.T) {
	old := [][]byte{some(1), some(300), some(2)}
	for _, gen := range []uint32{1, 2, 250, 251, 252} {
		m := blank(10).with(gen-1, gen > 1, some(5), some(6), some(7)).with(gen, true, old[:2]...)
		for steps := 0; ; steps++ {
			d := m.drum(t)
			r := wantOpen(t, "laid", d, gen, old[:2]...)
			appended(t, r, old[2]) // not flushed
			d.Arm(steps)
			err := r.Turn(some(255))
			if err == nil {
				wantOpen(t, "done", d.Fall(nil, -1), gen+1, some(255))
				if steps < 5 {
					t.Fatalf("a Turn of %d steps", steps)
				}
				break
			}
			wantCode(t, "Turn", err, api.ErrOff)
			falls(d, func(f *drum.Drum) { oldOrNew(t, f, gen, 2, old, some(255)) })
		}
	}
}

// The half that a Turn hasn't begun is there till its head is flushed, also for who opens the same drum again, and turns it once more.
func TestFallsOfATurnBehindATurnThatWasNotDone(t *testing.T) {
	old := [][]byte{some(1), some(2)}
	fallen := 0
	for first := range 12 {
		for again := range 12 {
			d := blank(8).with(3, true, some(9)).with(4, true, old...).drum(t)
			r := wantOpen(t, "laid", d, 4, old...)
			d.Arm(first)
			if r.Turn(some(3)) == nil {
				continue
			}
			d.Arm(-1)
			x, err := reel.Open(d)
			wantCode(t, "Open again", err, api.OK)
			d.Arm(again)
			if x.Turn(some(4)) == nil {
				continue
			}
			gen := x.Gen()
			falls(d, func(f *drum.Drum) {
				y, err := reel.Open(f)
				wantCode(t, "Open", err, api.OK)
				switch y.Gen() {
				case 4:
					wantReel(t, "oldest", f, y, 4, old...)
				case gen:
					wantReel(t, "old", f, y, gen, some(3))
				case gen + 1:
					wantReel(t, "new", f, y, gen+1, some(4))
				default:
					t.Fatalf("generation %d", y.Gen())
				}
				fallen++
			})
		}
	}
	if fallen == 0 {
		t.Fatal("no Turn was stopped")
	}
}

// What an Open has wiped doesn't come back, also if it couldn't flush that, and the same drum is opened again.
func TestFallsBehindAnOpenThatWasNotDone(t *testing.T) {
	stale := parts(1, 2, some(30))[0]
	m := blank(10).with(1, true, some(1))
	m[from(10, 1)+2] = stale
	for steps := range 3 {
		d := m.drum(t)
		d.Arm(steps)
		r, err := reel.Open(d)
		if steps < 2 {
			wantCode(t, "Open", err, api.ErrOff)
			falls(d, func(f *drum.Drum) { wantOpen(t, "fallen", f, 1, some(1)) })
			d.Arm(-1)
			r, err = reel.Open(d)
		}
		wantCode(t, "Open", err, api.OK)
		d.Arm(-1)
		appended(t, r, some(2), some(3))
		l := [][]byte{some(1), some(2), some(3)}
		falls(d, func(f *drum.Drum) {
			x, err := reel.Open(f)
			wantCode(t, "Open", err, api.OK)
			if x.Count() > len(l) {
				t.Fatalf("%d records", x.Count())
			}
			wantReel(t, "fallen", f, x, 1, l[:x.Count()]...)
		})
	}
}

// kept is a generation that a Fall may leave: of its records at least so many.
type kept struct {
	gen   uint32
	all   [][]byte
	least int
}

// course is a reel, and what a Fall may leave of it: the last one is what it has.
type course struct {
	d   *drum.Drum
	r   *reel.Reel
	may []kept
}

func (c *course) has() *kept {
	return &c.may[len(c.may)-1]
}

func someBytes(rnd *rand.Rand) []byte {
	p := make([]byte, []int{0, 1, 20, 246, 247, 400, 600}[rnd.Intn(7)])
	rnd.Read(p)
	return p
}

// fall stops the power, and opens what that leaves; that may be stopped, too.
func (c *course) fall(t *testing.T, rnd *rand.Rand) {
	t.Helper()
	keep := make([]bool, c.d.Dirty())
	for k := range keep {
		keep[k] = rnd.Intn(4) > 0
	}
	c.d = c.d.Fall(keep, rnd.Intn(400)-60)
	for rnd.Intn(2) == 0 {
		c.d.Arm(rnd.Intn(3))
		if _, err := reel.Open(c.d); err != nil {
			wantCode(t, "Open", err, api.ErrOff)
			keep := []bool{rnd.Intn(2) == 0, rnd.Intn(2) == 0}
			c.d = c.d.Fall(keep, rnd.Intn(300))
		}
	}
	c.open(t)
	gen, n := c.r.Gen(), c.r.Count()
	for _, k := range c.may {
		if k.gen == gen && n >= k.least && n <= len(k.all) {
			wantReel(t, "fallen", c.d, c.r, gen, k.all[:n]...)
			c.may = []kept{{gen, k.all[:n], n}}
			return
		}
	}
	t.Fatalf("fallen: generation %d, %d records", gen, n)
}

// again opens the same drum, behind a stop or not: it has all that was written.
func (c *course) again(t *testing.T) {
	t.Helper()
	c.open(t)
	for c.has().gen > c.r.Gen() { // a Turn that didn't come to its head
		c.may = c.may[:len(c.may)-1]
	}
	wantReel(t, "again", c.d, c.r, c.has().gen, c.has().all...)
}

func (c *course) open(t *testing.T) {
	t.Helper()
	c.d.Arm(-1)
	r, err := reel.Open(c.d)
	wantCode(t, "Open", err, api.OK)
	c.r = r
}

// call does one call of the reel.
func (c *course) call(rnd *rand.Rand) error {
	has, p, op := c.has(), someBytes(rnd), rnd.Intn(10)
	switch {
	case op < 6:
		err := c.r.Append(p)
		if err == nil {
			has.all = append(has.all, p)
		}
		return err
	case op < 8:
		err := c.r.Flush()
		if err == nil {
			c.may = []kept{{has.gen, has.all, len(has.all)}}
		}
		return err
	}
	err := c.r.Turn(p)
	next := kept{has.gen + 1, [][]byte{p}, 1}
	switch api.Code(err) {
	case api.OK:
		c.may = []kept{next}
	case api.ErrOff:
		c.may = append(c.may, next)
	}
	return err
}

// play does one thing; a drum that is off falls, or is opened again as it is.
func (c *course) play(t *testing.T, rnd *rand.Rand) {
	t.Helper()
	switch rnd.Intn(12) {
	case 0:
		c.d.Arm(rnd.Intn(12))
	case 1:
		c.fall(t, rnd)
	case 2:
		c.again(t)
	default:
		switch err := c.call(rnd); api.Code(err) {
		case api.OK:
			wantReel(t, "call", c.d, c.r, c.has().gen, c.has().all...)
		case api.ErrOff:
			if rnd.Intn(2) == 0 {
				c.again(t)
			} else {
				c.fall(t, rnd)
			}
		default:
			wantCode(t, "call", err, api.ErrFull)
		}
	}
}

func TestLongCourses(t *testing.T) {
	for seed := range int64(120) {
		rnd := rand.New(rand.NewSource(seed))
		d := made(t, 8+rnd.Intn(16))
		c := &course{d: d, r: wantMake(t, d, some(1)), may: []kept{{1, [][]byte{some(1)}, 1}}}
		for range 250 {
			c.play(t, rnd)
		}
	}
}

// Turned bits of what was flushed leave the records ahead of them, and no other ones.
func TestTurnedBitsOfARecordAreFound(t *testing.T) {
	l := [][]byte{some(1), some(300), some(2), nil}
	m := blank(14).with(1, true, l...)
	rnd := rand.New(rand.NewSource(1))
	for i, at := range []int{0, 1, 3, 4} {
		for k := range len(parts(1, i, l[i])) {
			for bit := range 2048 {
				d := m.drum(t)
				wantCode(t, "Turn", d.Turn(from(14, 1)+at+k, bit, rnd.Uint32()>>rnd.Intn(32)|1), api.OK)
				x, err := reel.Open(d)
				if api.Code(err) == api.ErrForm && i == 0 {
					continue
				}
				wantCode(t, "Open", err, api.OK)
				if x.Count() != i && x.Count() != len(l) { // all, if it was behind the Frame
					t.Fatalf("the sector %d, bit %d: %d records", at+k, bit, x.Count())
				}
				for j, p := range x.Records() {
					if !bytes.Equal(p, l[j]) {
						t.Fatalf("the sector %d, bit %d: the record %d isn't right", at+k, bit, j)
					}
				}
			}
		}
	}
}
