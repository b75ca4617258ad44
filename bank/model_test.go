package bank_test

import (
	"bytes"
	"encoding/binary"
	"fmt"
	"math/rand"
	"reflect"
	"slices"
	"sort"
	"testing"

	"arrears/api"
	"arrears/bank"
	"arrears/chart"
	"arrears/coin"
	"arrears/date"
	"arrears/due"
	"arrears/late"
	"arrears/ledger"
	"arrears/loan"
	"arrears/story"
	"arrears/terms"
	"arrears/yield"
)

// model is a bank word by word.
type model struct {
	h     due.Holy
	today date.Day
	loans map[uint32]*loan.Loan
	b     *ledger.Ledger
}

func newModel(today date.Day, h due.Holy) *model {
	return &model{h: h, today: today, loans: map[uint32]*loan.Loan{}, b: ledger.New()}
}

// ids are the loans', rising.
func (m *model) ids() []uint32 {
	l := []uint32{}
	for id := range m.loans {
		l = append(l, id)
	}
	sort.Slice(l, func(i, k int) bool { return l[i] < l[k] })
	return l
}

// left is those that weren't run through today, rising.
func (m *model) left() []uint32 {
	l := []uint32{}
	for _, id := range m.ids() {
		if m.loans[id].Through() != m.today {
			l = append(l, id)
		}
	}
	return l
}

func (m *model) board(t *testing.T, id uint32, x terms.Terms) api.Errno {
	t.Helper()
	switch {
	case m.loans[id] != nil:
		return api.ErrTwice
	case len(m.loans) == 65536:
		return api.ErrLimit
	case !x.Right():
		return api.ErrArg
	case x.Start != m.today:
		return api.ErrWindow
	}
	l, err := loan.New(id, x, m.h)
	must(t, err, l.Sync(m.b))
	m.loans[id] = l
	return api.OK
}

func (m *model) take(t *testing.T, id uint32, e story.Event) api.Errno {
	t.Helper()
	if m.loans[id] == nil {
		return api.ErrNone
	}
	err := m.loans[id].Take(e, m.today)
	must(t, m.loans[id].Sync(m.b))
	return api.Code(err)
}

func (m *model) reverse(t *testing.T, id, seq uint32) api.Errno {
	t.Helper()
	if m.loans[id] == nil {
		return api.ErrNone
	}
	err := m.loans[id].Reverse(seq, m.today)
	must(t, m.loans[id].Sync(m.b))
	return api.Code(err)
}

func (m *model) step(t *testing.T) (uint32, bool, api.Errno) {
	t.Helper()
	if l := m.left(); len(l) > 0 {
		must(t, m.loans[l[0]].Run(m.today), m.loans[l[0]].Sync(m.b))
		return l[0], false, api.OK
	}
	if m.today == 3600000 {
		return 0, false, api.ErrWindow
	}
	m.today++
	return 0, true, api.OK
}

// number is p, and a number as a Quill writes it.
func number(p []byte, n uint64) []byte {
	b := binary.BigEndian.AppendUint64(nil, n)
	for len(b) > 0 && b[0] == 0 {
		b = b[1:]
	}
	return append(append(p, byte(len(b))), b...)
}

// text is p, and a text as a Quill writes it.
func text(p, s []byte) []byte {
	return append(number(p, uint64(len(s))), s...)
}

// form is a bank's bytes, part by part.
func form(today uint64, h []uint64, loans [][]byte, lines []byte) []byte {
	p := number(number(nil, today), uint64(len(h)))
	for _, d := range h {
		p = number(p, d)
	}
	p = number(p, uint64(len(loans)))
	for _, l := range loans {
		p = text(p, l)
	}
	return text(p, lines)
}

func (m *model) bytes() []byte {
	h, l := []uint64{}, [][]byte{}
	for _, d := range m.h {
		h = append(h, uint64(d))
	}
	for _, id := range m.ids() {
		l = append(l, m.loans[id].Bytes())
	}
	return form(uint64(m.today), h, l, m.b.Bytes())
}

// String tells a model in a failure.
func (m *model) String() string {
	s := fmt.Sprintf("on %d, holy %v", m.today, m.h)
	for _, id := range m.ids() {
		s += fmt.Sprintf("; loan %d: %s, %v, through %d", id, m.loans[id].Terms().Text(), m.loans[id].Events(), m.loans[id].Through())
	}
	return s
}

func must(t *testing.T, errs ...error) {
	t.Helper()
	for k, err := range errs {
		if err != nil {
			t.Fatalf("%d: error %d", k, api.Code(err))
		}
	}
}

// wantErr holds that err is that one of the loan.
func wantErr(t *testing.T, what any, err error, want api.Errno, id uint32) {
	t.Helper()
	if api.Code(err) != want || want != api.OK && api.At(err) != uint64(id) {
		t.Fatalf("%v: error %d at %d, want %d at %d", what, api.Code(err), api.At(err), want, id)
	}
}

// wantLike holds that all that b tells is the model's.
func wantLike(t *testing.T, b *bank.Bank, m *model) {
	t.Helper()
	if b.Today() != m.today || b.Left() != len(m.left()) || !slices.Equal(b.IDs(), m.ids()) {
		t.Fatalf("%v: on %d, %d left, loans %v", m, b.Today(), b.Left(), b.IDs())
	}
	for id, l := range m.loans {
		if got := b.Loan(id); !bytes.Equal(got.Bytes(), l.Bytes()) || got.State() != l.State() {
			t.Fatalf("%v: loan %d is % x, want % x", m, id, got.Bytes(), l.Bytes())
		}
		q, err := b.Quote(id)
		must(t, err)
		if o := l.State().Owed; q != o.Fees+o.Interest+o.Principal {
			t.Fatalf("%v: loan %d: quote %d of %v", m, id, q, o)
		}
		k, err := b.Bucket(id)
		must(t, err)
		if k != late.Bucket(l.Late(m.today)) {
			t.Fatalf("%v: loan %d: bucket %d of %d days", m, id, k, l.Late(m.today))
		}
	}
	if !ledger.Same(b.Ledger(), m.b) {
		t.Fatalf("%v: the ledger is % x, want % x", m, b.Ledger().Bytes(), m.b.Bytes())
	}
	if !bytes.Equal(b.Bytes(), m.bytes()) {
		t.Fatalf("%v: % x, want % x", m, b.Bytes(), m.bytes())
	}
}

// wantKept holds P19.4, and with it P4 and P6.
func wantKept(t *testing.T, b *bank.Bank) {
	t.Helper()
	g := b.Ledger()
	for _, id := range b.IDs() {
		l := b.Loan(id)
		want := l.Entries()
		sort.Slice(want, func(i, k int) bool { return want[i].Key.Less(want[k].Key) })
		got := g.Loan(id)
		if !reflect.DeepEqual(got, want) {
			t.Fatalf("loan %d: live are %v, want %v", id, got, want)
		}
		wantAccruals(t, b, l, got)
	}
	all := coin.Coin(0)
	for account := range byte(10) {
		sum := coin.Coin(0)
		for _, id := range b.IDs() {
			sum += g.Balance(id, account)
		}
		if sum != g.Control(account) {
			t.Fatal(account, sum, g.Control(account))
		}
		all += sum
	}
	if all != 0 || !slices.Equal(g.Loans(), b.IDs()) {
		t.Fatal(all, g.Loans(), b.IDs())
	}
}

// wantAccruals holds that of each day at whose end the loan is Active there is one live accrual, and of no other.
func wantAccruals(t *testing.T, b *bank.Bank, l *loan.Loan, live []chart.Entry) {
	t.Helper()
	accruals := map[date.Day]int{}
	for _, e := range live {
		if e.Key.Kind == chart.Accrue {
			accruals[e.Key.Day]++
		}
	}
	s, err := story.New(l.ID(), l.Terms(), nil)
	must(t, err)
	for d := l.Terms().Start; d <= l.Through(); d++ {
		upTo := []story.Event{}
		for _, x := range l.Events() {
			if !x.Gone && x.Event.Day <= d {
				upTo = append(upTo, x.Event)
			}
		}
		want := 0
		// Holidays move fees alone, and a fee leaves it Active.
		if st, _ := s.Tell(upTo, d); st.Status == story.Active {
			want = 1
		}
		if accruals[d] != want {
			t.Fatalf("loan %d: %d accruals of the day %d, want %d", l.ID(), accruals[d], d, want)
		}
		delete(accruals, d)
	}
	if len(accruals) > 0 {
		t.Fatalf("loan %d, on %d: accruals %v besides", l.ID(), b.Today(), accruals)
	}
}

// wantBack holds that a copy, and what is made of the bytes, is the same bank.
func wantBack(t *testing.T, b *bank.Bank, m *model) *bank.Bank {
	t.Helper()
	wantLike(t, b.Copy(), m)
	back, err := bank.Parse(b.Bytes())
	must(t, err)
	wantLike(t, back, m)
	if !bank.Same(b, back) || !bank.Same(back, b.Copy()) {
		t.Fatalf("%v: not the same", m)
	}
	return back
}

// someTerms is terms of a loan that begins on that day.
func someTerms(g *rand.Rand, start date.Day) terms.Terms {
	x := terms.Terms{
		Kind:      byte(1 + g.Intn(2)),
		Principal: 1 + coin.Coin(g.Int63n(api.MaxMoney)>>g.Intn(40)),
		Rate:      yield.Rate{Parts: uint32(g.Intn(api.MaxRate+1)) >> g.Intn(20), Basis: byte(1 + g.Intn(2))},
		Months:    1 + g.Intn(24)>>g.Intn(5),
		Start:     start,
		Fee:       coin.Coin(g.Intn(terms.MaxFee+1) >> g.Intn(31)),
		Grace:     g.Intn(terms.MaxGrace+1) >> g.Intn(7),
	}
	switch g.Intn(6) {
	case 0:
		x.Months = 0
	case 1:
		x.Start += date.Day(g.Intn(3) - 1)
	}
	return x
}

// someEvent is one of the loan around today: mostly one that is taken.
func someEvent(g *rand.Rand, m *model, id uint32) story.Event {
	e := story.Event{
		Seq:    uint32(g.Intn(60)),
		Day:    m.today + 1 - date.Day(g.Intn(36)>>g.Intn(6)),
		Kind:   []byte{4, 4, 4, 4, 4, 5, 5, 6, 6, 7}[g.Intn(10)],
		Amount: 1 + coin.Coin(g.Int63n(api.MaxMoney)>>g.Intn(40)),
	}
	quote := m.loans[id].State().Quote()
	switch {
	case e.Kind == 7 && g.Intn(3) == 0:
		e.Amount = 0
	case e.Kind == 4 && g.Intn(8) == 0:
		e.Amount = min(max(quote, 1), api.MaxMoney)
	}
	return e
}

// act does one thing to both, and tells what of it: 0 Board, 100 Take, 200 Reverse, 300 Step, and the error.
func act(t *testing.T, g *rand.Rand, b *bank.Bank, m *model) int {
	t.Helper()
	ids := m.ids()
	id := uint32(g.Intn(8))
	if len(ids) > 0 && g.Intn(8) > 0 {
		id = ids[g.Intn(len(ids))]
	}
	n := g.Intn(24)
	switch {
	case n < 2:
		id, x := uint32(g.Intn(8)), someTerms(g, m.today)
		want := m.board(t, id, x)
		wantErr(t, x, b.Board(id, x), want, id)
		return int(want)
	case n < 7:
		e := story.Event{}
		if m.loans[id] != nil {
			e = someEvent(g, m, id)
		}
		want := m.take(t, id, e)
		wantErr(t, e, b.Take(id, e), want, id)
		return 100 + int(want)
	case n < 9:
		seq := uint32(g.Intn(60))
		if l := m.loans[id].Events(); len(l) > 0 && g.Intn(3) > 0 {
			seq = l[g.Intn(len(l))].Event.Seq
		}
		want := m.reverse(t, id, seq)
		wantErr(t, seq, b.Reverse(id, seq), want, id)
		return 200 + int(want)
	}
	last := 0
	for range 1 + g.Intn(64)>>g.Intn(7) {
		wantID, wantDone, want := m.step(t)
		id, done, err := b.Step()
		if id != wantID || done != wantDone || api.Code(err) != want {
			t.Fatalf("%v: step of %d, %v, error %d, want %d, %v, %d", m, id, done, api.Code(err), wantID, wantDone, want)
		}
		last = 300 + int(want)
	}
	return last
}

// TestAnyBanks: P19.1 to P19.4 and P4, P6, P7, by the model.
func TestAnyBanks(t *testing.T) {
	g := rand.New(rand.NewSource(19))
	told, statuses := map[int]int{}, map[byte]int{}
	for n := range 30 {
		today := date.Day(g.Intn(terms.MaxStart - 200))
		if n%6 == 0 {
			today = terms.MaxStart - date.Day(g.Intn(30))
		}
		m := newModel(today, due.Holy{today + 31, today + 32})
		b := made(t, today, m.h...)
		for k := range 200 {
			told[act(t, g, b, m)]++
			if k%20 == 0 {
				wantLike(t, b, m)
			}
			// What goes on may be a copy, or what was made of the bytes.
			switch g.Intn(100) {
			case 0:
				b = b.Copy()
			case 1:
				b = wantBack(t, b, m)
			}
		}
		wantLike(t, b, m)
		wantBack(t, b, m)
		wantKept(t, b)
		for _, id := range b.IDs() {
			statuses[b.Loan(id).State().Status]++
		}
	}
	for _, n := range []api.Errno{
		api.OK, api.ErrTwice, api.ErrArg, api.ErrWindow,
		100, 100 + api.ErrNone, 100 + api.ErrArg, 100 + api.ErrTwice, 100 + api.ErrWindow, 100 + api.ErrClosed, 100 + api.ErrState,
		200, 200 + api.ErrNone, 200 + api.ErrState, 200 + api.ErrArg, 200 + api.ErrWindow,
		300, 300 + api.ErrWindow,
	} {
		if told[int(n)] < 5 {
			t.Fatalf("%d was told %d times", n, told[int(n)])
		}
	}
	for _, n := range []byte{story.Active, story.Closed, story.Lost} {
		if statuses[n] < 10 {
			t.Fatalf("%s is the end of %d", story.Name(n), statuses[n])
		}
	}
}
