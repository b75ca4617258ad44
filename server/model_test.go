package server_test

import (
	"bytes"
	"math/rand"
	"slices"
	"strconv"
	"testing"

	"arrears/api"
	"arrears/bank"
	"arrears/chart"
	"arrears/coin"
	"arrears/date"
	"arrears/drum"
	"arrears/due"
	"arrears/ledger"
	"arrears/level"
	"arrears/order"
	"arrears/reel"
	"arrears/server"
	"arrears/span"
	"arrears/story"
	"arrears/terms"
	"arrears/yield"
)

// start is the usual terms' Start.
const start date.Day = 738915

// from is the usual terms of a loan that begins on that day.
func from(d date.Day) terms.Terms {
	return terms.Terms{Kind: level.Level, Principal: 120000, Rate: yield.Rate{Parts: 60000, Basis: span.Actual}, Months: 12, Start: d, Fee: 1500, Grace: 10}
}

func board(id uint32, d date.Day) order.Order {
	return order.Order{Kind: order.Board, Loan: id, Terms: from(d)}
}

func event(id, seq uint32, d date.Day, kind byte, n coin.Coin) order.Order {
	return order.Order{Kind: order.Take, Loan: id, Event: story.Event{Seq: seq, Day: d, Kind: kind, Amount: n}}
}

func pay(id, seq uint32, d date.Day, n coin.Coin) order.Order {
	return event(id, seq, d, story.Pay, n)
}

func reverse(id, seq uint32) order.Order {
	return order.Order{Kind: order.Reverse, Loan: id, Event: story.Event{Seq: seq}}
}

func step() order.Order {
	return order.Order{Kind: order.Step}
}

func drumOf(t *testing.T, n int) *drum.Drum {
	t.Helper()
	d, err := drum.New(n)
	wantCode(t, "drum.New", err, api.OK)
	return d
}

func bankOf(t *testing.T, today date.Day, h ...date.Day) *bank.Bank {
	t.Helper()
	b, err := bank.New(today, h)
	wantCode(t, "bank.New", err, api.OK)
	return b
}

// made is a server on a new drum of n sectors.
func made(t *testing.T, n int, today date.Day, h ...date.Day) *server.Server {
	t.Helper()
	s, err := server.Make(drumOf(t, n), today, h)
	wantCode(t, "Make", err, api.OK)
	return s
}

func opened(t *testing.T, d *drum.Drum) *server.Server {
	t.Helper()
	s, err := server.Open(d)
	wantCode(t, "Open", err, api.OK)
	return s
}

// does asks all of them, none of which has an error.
func does(t *testing.T, s *server.Server, l ...order.Order) {
	t.Helper()
	for _, o := range l {
		if _, _, err := s.Do(o); err != nil {
			t.Fatalf("%s: error %d", o.Text(), api.Code(err))
		}
	}
}

func wantCode(t *testing.T, what string, err error, want api.Errno) {
	t.Helper()
	if got := api.Code(err); got != want {
		t.Fatalf("%s: error %d, want %d", what, got, want)
	}
}

// image is all that is to be read of a drum.
func image(t *testing.T, d *drum.Drum) string {
	t.Helper()
	var all []byte
	for i := range d.Size() {
		p, err := d.Read(i)
		wantCode(t, "Read", err, api.OK)
		all = append(all, p...)
	}
	return string(all)
}

// told is all that a server tells, and all that its drum tells.
type told struct {
	bank          string
	gen           uint32
	orders, room  int
	off           bool
	seen, lasting string
	dirty         int
}

func tell(t *testing.T, s *server.Server) told {
	t.Helper()
	d := s.Drum()
	return told{
		bank: string(s.Bank().Bytes()), gen: s.Gen(), orders: s.Orders(), room: s.Room(), off: s.Off(),
		seen: image(t, d), lasting: image(t, d.Fall(nil, -1)), dirty: d.Dirty(),
	}
}

// model is a server word by word: a bank as it was at the last snapshot, and what was done since.
type model struct {
	gen   uint32
	half  int
	first []byte
	log   []order.Order
	b     *bank.Bank
}

func newModel(t *testing.T, sectors int, today date.Day, h ...date.Day) *model {
	t.Helper()
	b := bankOf(t, today, h...)
	return &model{gen: 1, half: (sectors - 2) / 2, first: b.Bytes(), b: b}
}

// pages is how many sectors n bytes take, with the frame's eight, by 254 each.
func pages(n int) int {
	return (n + 8 + 253) / 254
}

func (m *model) room() int {
	return m.half - pages(len(m.first)) - len(m.log)
}

// do is the answers of a Do, on a drum that doesn't stop.
func (m *model) do(o order.Order) (uint32, bool, api.Errno) {
	next := m.b.Copy()
	id, closed, err := o.Do(next)
	switch {
	case err != nil:
		return 0, false, api.Code(err)
	case m.room() < 1:
		return 0, false, api.ErrFull
	}
	m.b, m.log = next, append(m.log, o)
	return id, closed, api.OK
}

func (m *model) batch(n int) (int, bool, api.Errno) {
	for k := range max(n, 0) {
		switch _, closed, code := m.do(step()); {
		case code != api.OK:
			return k, false, code
		case closed:
			return k + 1, true, api.OK
		}
	}
	return max(n, 0), false, api.OK
}

func (m *model) snapshot() api.Errno {
	p := m.b.Bytes()
	switch {
	case len(p) > 100000:
		return api.ErrLong
	case pages(len(p)) > m.half:
		return api.ErrFull
	}
	m.gen, m.first, m.log = m.gen+1, p, nil
	return api.OK
}

// records are those on the drum.
func (m *model) records() [][]byte {
	l := [][]byte{m.first}
	for _, o := range m.log {
		l = append(l, o.Bytes())
	}
	return l
}

// wantLike holds that all that s tells is the model's, and that its drum has just those records.
func wantLike(t *testing.T, what any, s *server.Server, m *model) {
	t.Helper()
	if s.Gen() != m.gen || s.Orders() != len(m.log) || s.Room() != m.room() || s.Off() {
		t.Fatalf("%v: generation %d, %d orders, room %d, off %v, want %d, %d, %d", what, s.Gen(), s.Orders(), s.Room(), s.Off(), m.gen, len(m.log), m.room())
	}
	if !bytes.Equal(s.Bank().Bytes(), m.b.Bytes()) {
		t.Fatalf("%v: another bank", what)
	}
	r, err := reel.Open(s.Drum().Copy())
	if err != nil || r.Gen() != m.gen || !slices.EqualFunc(r.Records(), m.records(), bytes.Equal) {
		t.Fatalf("%v: error %d, the drum has % x, want % x", what, api.Code(err), r.Records(), m.records())
	}
}

// wantKept holds P4 and P6: each loan's entries, and one accrual a day, are live once; all balances.
func wantKept(t *testing.T, b *bank.Bank) {
	t.Helper()
	g := b.Ledger()
	for _, id := range b.IDs() {
		l := b.Loan(id)
		live := ledger.New()
		if err := l.Sync(live); err != nil {
			t.Fatal(api.Code(err))
		}
		if !slices.EqualFunc(g.Loan(id), live.Loan(id), chart.Same) {
			t.Fatalf("loan %d: live are %v, want %v", id, g.Loan(id), live.Loan(id))
		}
		days := map[date.Day]int{}
		for _, e := range g.Loan(id) {
			if e.Key.Kind == chart.Accrue {
				days[e.Key.Day]++
			}
		}
		if l.State().Status == story.Active && len(days) != int(l.Through()-l.Terms().Start+1) {
			t.Fatalf("loan %d: accruals %v through %d", id, days, l.Through())
		}
		for d, n := range days {
			if n != 1 || d < l.Terms().Start || d > l.Through() {
				t.Fatalf("loan %d: %d accruals of the day %d", id, n, d)
			}
		}
	}
	all := coin.Coin(0)
	for account := range byte(10) {
		sum := coin.Coin(0)
		for _, id := range b.IDs() {
			sum += g.Balance(id, account)
		}
		if sum != g.Control(account) {
			t.Fatal(account, sum, g.Control(account))
		}
		all += sum
	}
	if all != 0 {
		t.Fatal(all)
	}
}

// someOrder is one that is right, of what b may have; mostly one that is taken.
func someOrder(g *rand.Rand, b *bank.Bank) order.Order {
	today, id := b.Today(), uint32(g.Intn(4))
	if l := b.IDs(); len(l) > 0 && g.Intn(6) > 0 {
		id = l[g.Intn(len(l))]
	}
	seq, d := uint32(g.Intn(60)), max(0, today+1-date.Day(g.Intn(36)>>g.Intn(6)))
	switch n := g.Intn(16); {
	case n < 2:
		return board(id, min(max(0, today+date.Day(g.Intn(8)/7-g.Intn(8)/7)), terms.MaxStart))
	case n < 6:
		return pay(id, seq, d, 1+coin.Coin(g.Intn(200000)>>g.Intn(17)))
	case n < 8:
		return event(id, seq, d, []byte{story.Fee, story.Waive}[g.Intn(2)], 1+coin.Coin(g.Intn(3000)))
	case n < 9 && g.Intn(4) == 0:
		return event(id, seq, d, story.Off, 0)
	case n < 11:
		if l := b.Loan(id).Events(); len(l) > 0 && g.Intn(5) > 0 {
			seq = l[g.Intn(len(l))].Event.Seq
		}
		return reverse(id, seq)
	}
	return step()
}

// TestAnyServers: P21.1 and P21.2, by the model.
func TestAnyServers(t *testing.T) {
	g := rand.New(rand.NewSource(211))
	codes := map[string]int{}
	for n := range 80 {
		today := date.Day(50 + g.Intn(terms.MaxStart-200))
		if n%4 == 0 {
			today = terms.MaxStart - date.Day(g.Intn(9))
		}
		h := due.Holy{today + 31, today + 32}
		sectors := 8 + g.Intn(60)
		m, s := newModel(t, sectors, today, h...), made(t, sectors, today, h...)
		for k := range 160 {
			what := act(t, g, s, m)
			codes[what]++
			if k%10 == 0 {
				wantLike(t, what, s, m)
			}
			// What goes on may be what is opened anew.
			if g.Intn(20) == 0 {
				wantCode(t, "Commit", s.Commit(), api.OK)
				s = opened(t, s.Drum().Fall(nil, -1))
				wantLike(t, "opened", s, m)
			}
		}
		wantLike(t, "at last", s, m)
		wantKept(t, s.Bank())
	}
	for _, what := range []string{"do 0", "do 3", "do 6", "do 10", "do 11", "do 14", "batch 0", "batch 6", "batch 11", "snapshot 0"} {
		if codes[what] < 5 {
			t.Fatalf("%s: %d times of %v", what, codes[what], codes)
		}
	}
}

// act does one thing to both, and tells what, and the error's number.
func act(t *testing.T, g *rand.Rand, s *server.Server, m *model) string {
	t.Helper()
	switch n := g.Intn(24); {
	case n < 16:
		o := someOrder(g, m.b)
		wantID, wantClosed, want := m.do(o)
		id, closed, err := s.Do(o)
		if id != wantID || closed != wantClosed || api.Code(err) != want {
			t.Fatalf("%s: %d, %v, error %d, want %d, %v, %d", o.Text(), id, closed, api.Code(err), wantID, wantClosed, want)
		}
		return "do " + strconv.Itoa(int(want))
	case n < 22:
		k := g.Intn(8) - 1
		wantDone, wantClosed, want := m.batch(k)
		done, closed, err := s.Batch(k)
		if done != wantDone || closed != wantClosed || api.Code(err) != want || s.Drum().Dirty() != 0 {
			t.Fatalf("Batch(%d): %d, %v, error %d, want %d, %v, %d", k, done, closed, api.Code(err), wantDone, wantClosed, want)
		}
		return "batch " + strconv.Itoa(int(want))
	case n < 23:
		wantCode(t, "Commit", s.Commit(), api.OK)
		return "commit"
	}
	was := tell(t, s)
	want := m.snapshot()
	wantCode(t, "Snapshot", s.Snapshot(), want)
	if want != api.OK && tell(t, s) != was {
		t.Fatal("a snapshot was refused, and changed something")
	}
	return "snapshot " + strconv.Itoa(int(want))
}
