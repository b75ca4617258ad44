package server_test

import (
	"bytes"
	"math/rand"
	"testing"

	"arrears/api"
	"arrears/bank"
	"arrears/drum"
	"arrears/order"
	"arrears/server"
	"arrears/story"
)

// P21.3, and with it P3 and P4: wherever the drum stops, whatever a Fall leaves.

// ask is one thing that is asked of a server: an order, or, if it is none, a Commit, a Snapshot, or a Batch of n.
type ask struct {
	o    order.Order
	what byte
	n    int
}

const (
	commit   = 'c'
	snapshot = 's'
	batch    = 'b'
)

// history is what may be found: the bank behind each number of orders that were taken.
type history struct {
	b       *bank.Bank
	banks   [][]byte
	least   int  // so many were taken when a commit came back
	stopped bool // the last one is that at which the drum stopped
}

func newHistory(b *bank.Bank) *history {
	return &history{b: b, banks: [][]byte{b.Bytes()}}
}

// taken adds an order to those that were taken.
func (h *history) taken(t *testing.T, o order.Order) {
	t.Helper()
	if _, _, err := o.Do(h.b); err != nil {
		t.Fatalf("%s: error %d", o.Text(), api.Code(err))
	}
	h.banks = append(h.banks, h.b.Bytes())
}

// stop adds the order at which the drum stopped.
func (h *history) stop(t *testing.T, o order.Order) {
	t.Helper()
	h.taken(t, o)
	h.stopped = true
}

// asks asks it of the server; false: its drum has stopped.
func (h *history) asks(t *testing.T, s *server.Server, a ask) bool {
	t.Helper()
	var err error
	switch a.what {
	case commit:
		err = s.Commit()
	case snapshot:
		err = s.Snapshot()
	case batch:
		var n int
		var closed bool
		n, closed, err = s.Batch(a.n)
		for range n {
			h.taken(t, step())
		}
		if api.Code(err) == api.ErrOff && n < a.n && !closed {
			h.stop(t, step())
		}
	default:
		if _, _, err = s.Do(a.o); err == nil {
			h.taken(t, a.o)
			return true
		} else if api.Code(err) == api.ErrOff {
			h.stop(t, a.o)
			return false
		}
		t.Fatalf("%s: error %d", a.o.Text(), api.Code(err))
	}
	if err == nil {
		h.least = len(h.banks) - 1
	} else {
		wantCode(t, "on a drum that stops", err, api.ErrOff)
	}
	return err == nil
}

// wantFound holds that what a Fall left is the bank behind some of the orders, and tells of how many.
func (h *history) wantFound(t *testing.T, what any, f *drum.Drum) int {
	t.Helper()
	s, err := server.Open(f)
	if err != nil {
		t.Fatalf("%v: error %d", what, api.Code(err))
	}
	found := s.Bank().Bytes()
	for p := len(h.banks) - 1; p >= h.least; p-- {
		if bytes.Equal(found, h.banks[p]) {
			return p
		}
	}
	t.Fatalf("%v: a bank that isn't one behind %d to %d orders", what, h.least, len(h.banks)-1)
	return 0
}

// falls goes through what a stop of power may leave of a drum: each choice of the writes, or many of them, if there are too many; whole or torn.
func falls(d *drum.Drum, each func(f *drum.Drum)) {
	const most = 9
	g := rand.New(rand.NewSource(214))
	n := d.Dirty()
	for choice := range 1 << min(n, most) {
		keep := make([]bool, n)
		for k := range keep {
			keep[k] = choice>>k&1 == 1
			if n > most {
				keep[k] = g.Intn(3) > 0
			}
		}
		for _, torn := range []int{-1, 0, 1, 5, 8, 13, 100, 255, 256} {
			each(d.Fall(keep, torn))
		}
	}
}

// course is what is asked of a server, and never is refused.
func course() []ask {
	do := func(o order.Order) ask { return ask{o: o} }
	return []ask{
		do(board(3, start)), do(board(7, start)), do(step()), {what: commit}, {what: batch, n: 9}, do(pay(3, 1, start, 6000)), do(event(7, 1, start+1, story.Fee, 70)), {what: batch, n: 1}, do(pay(7, 2, start, 500)), do(reverse(3, 1)), {what: snapshot}, do(step()),
		{what: batch, n: 1}, do(event(7, 3, start+1, story.Waive, 70)), {what: snapshot}, {what: snapshot}, do(pay(3, 2, start+1, 200000)), do(board(0, start+2)), {what: batch, n: 9}, do(event(7, 4, start+2, story.Off, 0)), do(step()), {what: commit}, do(step()), do(step()),
	}
}

func TestWhereverTheDrumStops(t *testing.T) {
	found := map[string]int{}
	for steps := 0; ; steps++ {
		s, h := made(t, 40, start), newHistory(bankOf(t, start))
		s.Drum().Arm(steps)
		goes := true
		for _, a := range course() {
			if goes = h.asks(t, s, a); !goes {
				break
			}
		}
		if s.Off() == goes {
			t.Fatal(s.Off())
		}
		falls(s.Drum(), func(f *drum.Drum) {
			switch p := h.wantFound(t, steps, f); {
			case p == len(h.banks)-1 && h.stopped:
				found["the one at which it stopped"]++
			case p == len(h.banks)-1:
				found["all"]++
			case p == h.least:
				found["what was committed"]++
			default:
				found["more"]++
			}
		})
		if goes {
			if steps < 40 {
				t.Fatal(steps)
			}
			break
		}
	}
	if found["all"] < 100 || found["what was committed"] < 100 || found["more"] < 100 {
		t.Fatal(found)
	}
}

// What was committed stays, though the drum is opened, and stops, again and again.
func TestFallsBehindFalls(t *testing.T) {
	s, h := made(t, 40, start), newHistory(bankOf(t, start))
	for _, a := range []ask{{o: board(3, start)}, {what: commit}, {o: step()}, {o: pay(3, 1, start, 5)}, {o: step()}} {
		h.asks(t, s, a)
	}
	falls(s.Drum(), func(f *drum.Drum) {
		p := h.wantFound(t, "once", f)
		for steps := range 9 {
			g := f.Copy()
			x := opened(t, g)
			again := &history{b: x.Bank(), banks: [][]byte{x.Bank().Bytes()}}
			if !bytes.Equal(again.banks[0], h.banks[p]) {
				t.Fatal("opened again: another bank")
			}
			g.Arm(steps)
			for _, a := range []ask{{o: step()}, {what: snapshot}, {o: step()}, {what: commit}} {
				if !again.asks(t, x, a) {
					break
				}
			}
			falls(g, func(f *drum.Drum) { again.wantFound(t, "twice", f) })
		}
	})
}

// The same drum, opened anew behind its stop, has what Open tells, and keeps it.
func TestOpenOfTheDrumThatStopped(t *testing.T) {
	for steps := range 60 {
		s, h := made(t, 40, start), newHistory(bankOf(t, start))
		d := s.Drum()
		d.Arm(steps)
		for _, a := range course() {
			if !h.asks(t, s, a) {
				break
			}
		}
		d.Arm(-1)
		p := h.wantFound(t, steps, d)
		if p < len(h.banks)-2 {
			t.Fatalf("%d steps: the bank behind %d of %d orders", steps, p, len(h.banks)-1)
		}
		x := opened(t, d)
		does(t, x, board(9, x.Bank().Today()))
		for _, lasts := range []func() error{x.Commit, x.Snapshot} {
			wantCode(t, "Commit, Snapshot", lasts(), api.OK)
			if y := opened(t, d.Fall(nil, -1)); !bank.Same(y.Bank(), x.Bank()) {
				t.Fatalf("%d steps: another bank", steps)
			}
		}
	}
}

// someFall is any of what a stop of power may leave.
func someFall(g *rand.Rand, d *drum.Drum) *drum.Drum {
	keep := make([]bool, d.Dirty())
	all := g.Intn(4) == 0
	for k := range keep {
		keep[k] = all || g.Intn(3) > 0
	}
	return d.Fall(keep, g.Intn(300)-30)
}

// TestAnyStops: a client that asks again for what was lost comes to the bank that it would have had if no drum had stopped.
func TestAnyStops(t *testing.T) {
	g := rand.New(rand.NewSource(213))
	stops, lost := 0, 0
	for range 40 {
		h := newHistory(bankOf(t, start, start+31))
		s := made(t, 120, start, start+31)
		orders := []order.Order{} // those that were taken
		for rounds := 0; len(orders) < 150; rounds++ {
			if rounds > 999 {
				t.Fatalf("%d orders were taken", len(orders))
			}
			s.Drum().Arm(g.Intn(40))
			for !s.Off() {
				orders = someAsks(t, g, s, h, orders)
			}
			stops++
			h.wantFound(t, stops, someFall(g, s.Drum()))
			f := s.Drum().Fall(nil, -1)
			if g.Intn(2) == 0 {
				f = someFall(g, s.Drum())
			}
			p := h.wantFound(t, stops, f)
			s = opened(t, f)
			lost += len(h.banks) - 1 - p
			// Again, from there on.
			does(t, s, orders[p:]...)
			if !bytes.Equal(s.Bank().Bytes(), h.banks[len(h.banks)-1]) {
				t.Fatal("another bank")
			}
			wantCode(t, "Snapshot", s.Snapshot(), api.OK)
			h.least, h.stopped = len(h.banks)-1, false
		}
		wantKept(t, s.Bank())
	}
	if stops < 200 || lost < 200 {
		t.Fatal(stops, lost)
	}
}

// someAsks asks one thing, and tells all orders that were taken, and the one at which the drum stopped.
func someAsks(t *testing.T, g *rand.Rand, s *server.Server, h *history, orders []order.Order) []order.Order {
	t.Helper()
	a := ask{what: []byte{commit, snapshot, batch, batch, 0, 0, 0, 0, 0}[g.Intn(9)], n: g.Intn(6)}
	if s.Room() < 8 {
		a.what = snapshot
	}
	if a.what == 0 {
		a.o = someOrder(g, h.b)
		if _, _, err := a.o.Do(h.b.Copy()); err != nil {
			return orders
		}
	}
	n := len(h.banks)
	h.asks(t, s, a)
	for range len(h.banks) - n {
		if a.what == batch {
			orders = append(orders, step())
		} else {
			orders = append(orders, a.o)
		}
	}
	return orders
}

// P4: a day that is begun again and again, and stops ahead of its end, still is run once.
func TestADayThatIsBegunAgain(t *testing.T) {
	s := made(t, 200, start)
	loans := uint32(5)
	for id := range loans {
		does(t, s, board(id, start))
	}
	wantCode(t, "Commit", s.Commit(), api.OK)
	for range 12 {
		for today := s.Bank().Today(); s.Bank().Today() == today; {
			left := s.Bank().Left()
			s.Drum().Arm(3) // two steps, and no more, or the commit of two
			if _, _, err := s.Batch(2); err != nil {
				t.Fatal(api.Code(err))
			}
			n, closed, err := s.Batch(9)
			wantCode(t, "Batch", err, api.ErrOff)
			if n != 0 || closed {
				t.Fatal(n, closed)
			}
			s = opened(t, s.Drum().Fall(nil, -1))
			if b := s.Bank(); b.Today() == today && b.Left() != max(left-2, 0) {
				t.Fatal(b.Left(), left)
			}
		}
		wantCode(t, "Snapshot", s.Snapshot(), api.OK)
	}
	b := bankOf(t, start)
	for id := range loans {
		wantCode(t, "Board", b.Board(id, from(start)), api.OK)
	}
	for b.Today() < start+12 {
		if _, _, err := b.Step(); err != nil {
			t.Fatal(api.Code(err))
		}
	}
	if !bank.Same(s.Bank(), b) {
		t.Fatal("another bank than that of a drum that never stopped")
	}
	wantKept(t, s.Bank())
	if n := s.Bank().Ledger().Len(); n != 5*13 {
		t.Fatalf("%d lines", n)
	}
}
