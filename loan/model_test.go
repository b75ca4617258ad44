package loan_test

import (
	"bytes"
	"encoding/binary"
	"fmt"
	"math/rand"
	"reflect"
	"slices"
	"sort"
	"testing"

	"arrears/api"
	"arrears/chart"
	"arrears/coin"
	"arrears/date"
	"arrears/due"
	"arrears/ledger"
	"arrears/loan"
	"arrears/story"
	"arrears/terms"
	"arrears/yield"
)

// model is a loan word by word.
type model struct {
	id      uint32
	x       terms.Terms
	h       due.Holy
	s       *story.Story
	past    []loan.Past
	through date.Day
}

func newModel(t *testing.T, id uint32, x terms.Terms, h due.Holy) *model {
	t.Helper()
	s, err := story.New(id, x, h)
	if err != nil {
		t.Fatalf("%v: error %d", x, api.Code(err))
	}
	return &model{id: id, x: x, h: h, s: s, through: x.Start - 1}
}

func (m *model) tell() (story.State, []chart.Entry) {
	l := []story.Event{}
	for _, p := range m.past {
		if !p.Gone {
			l = append(l, p.Event)
		}
	}
	return m.s.Tell(l, m.through)
}

// window tells whether a day is one that Take doesn't take.
func (m *model) window(d, today date.Day) bool {
	n, now := int64(d), int64(today)
	return n < int64(m.x.Start) || n > now || n > int64(m.through)+1 || now-n >= 30
}

func (m *model) take(e story.Event, today date.Day) api.Errno {
	st, _ := m.tell()
	twice := false
	for _, p := range m.past {
		twice = twice || p.Event.Seq == e.Seq
	}
	switch {
	case !e.Right():
		return api.ErrArg
	case twice:
		return api.ErrTwice
	case len(m.past) == 500:
		return api.ErrLimit
	case m.window(e.Day, today):
		return api.ErrWindow
	case st.Status == story.Closed:
		return api.ErrClosed
	case st.Status == story.Lost && e.Kind != chart.Pay:
		return api.ErrState
	}
	m.past = append(m.past, loan.Past{Event: e})
	return api.OK
}

func (m *model) reverse(seq uint32, today date.Day) api.Errno {
	for k, p := range m.past {
		switch {
		case p.Event.Seq != seq:
			continue
		case p.Gone:
			return api.ErrState
		case p.Event.Kind != chart.Pay:
			return api.ErrArg
		case m.window(p.Event.Day, today):
			return api.ErrWindow
		}
		m.past[k].Gone = true
		return api.OK
	}
	return api.ErrNone
}

func (m *model) run(d date.Day) api.Errno {
	switch {
	case int64(d) != int64(m.through)+1:
		return api.ErrArg
	case d > 3640000:
		return api.ErrWindow
	}
	m.through = d
	return api.OK
}

// late is how many days ahead of today the first lies whose sum isn't paid.
func (m *model) late(today date.Day) int {
	st, _ := m.tell()
	if st.Status != story.Active {
		return 0
	}
	for _, x := range m.s.Dues() {
		if x.Sum > st.Paid {
			return max(0, int(today)-int(x.Day))
		}
	}
	return 0
}

// number is p, and a number as a Quill writes it.
func number(p []byte, n uint64) []byte {
	b := binary.BigEndian.AppendUint64(nil, n)
	for len(b) > 0 && b[0] == 0 {
		b = b[1:]
	}
	return append(append(p, byte(len(b))), b...)
}

func (m *model) bytes() []byte {
	text := m.x.Bytes()
	p := number(nil, uint64(m.id))
	p = append(number(p, uint64(len(text))), text...)
	p = number(p, uint64(int(m.through)-int(m.x.Start)+1))
	p = number(p, uint64(len(m.past)))
	for _, x := range m.past {
		p = past(p, x)
	}
	return p
}

// past is p, and an event as it stands in a loan's bytes.
func past(p []byte, x loan.Past) []byte {
	gone := uint64(0)
	if x.Gone {
		gone = 1
	}
	for _, n := range []uint64{uint64(x.Event.Seq), uint64(x.Event.Day), uint64(x.Event.Kind), uint64(x.Event.Amount), gone} {
		p = number(p, n)
	}
	return p
}

// lines is what a Sync adds to the ledger.
func (m *model) lines(b *ledger.Ledger) []ledger.Line {
	_, told := m.tell()
	sort.Slice(told, func(i, k int) bool { return told[i].Key.Less(told[k].Key) })
	added := []ledger.Line{}
	stays := map[chart.Key]bool{}
	for _, e := range b.Loan(m.id) {
		at := slices.IndexFunc(told, func(x chart.Entry) bool { return reflect.DeepEqual(x, e) })
		if at >= 0 {
			stays[e.Key] = true
			continue
		}
		turned := chart.Entry{Key: e.Key}
		for _, g := range e.Legs {
			turned.Legs = append(turned.Legs, chart.Leg{Account: g.Account, Amount: -g.Amount})
		}
		added = append(added, ledger.Line{Entry: turned, Of: place(b, e.Key) + 1})
	}
	for _, e := range told {
		if !stays[e.Key] {
			added = append(added, ledger.Line{Entry: e})
		}
	}
	return added
}

// place is that of the live line of a key: the last one of it.
func place(b *ledger.Ledger, k chart.Key) int {
	for at := b.Len() - 1; at >= 0; at-- {
		if x, _ := b.Line(at); x.Of == 0 && x.Entry.Key == k {
			return at
		}
	}
	return -1
}

// sync syncs l, and holds each line against the model's.
func (m *model) sync(t *testing.T, l *loan.Loan, b *ledger.Ledger) {
	t.Helper()
	was, want := b.Copy(), m.lines(b)
	must(t, l.Sync(b))
	if b.Len() != was.Len()+len(want) {
		t.Fatalf("%v: %d lines, then %d, want %d more", m, was.Len(), b.Len(), len(want))
	}
	for at := range b.Len() {
		got, _ := b.Line(at)
		x, old := was.Line(at)
		if !old {
			x = want[at-was.Len()]
		}
		if !reflect.DeepEqual(got, x) {
			t.Fatalf("%v: line %d is %v, want %v", m, at, got, x)
		}
	}
	wantLive(t, l, b)
}

// wantLive holds that the live entries are the loan's.
func wantLive(t *testing.T, l *loan.Loan, b *ledger.Ledger) {
	t.Helper()
	want := l.Entries()
	sort.Slice(want, func(i, k int) bool { return want[i].Key.Less(want[k].Key) })
	if got := b.Loan(l.ID()); len(got)+len(want) > 0 && !reflect.DeepEqual(got, want) {
		t.Fatalf("loan %d: live are %v, want %v", l.ID(), got, want)
	}
}

func must(t *testing.T, errs ...error) {
	t.Helper()
	for k, err := range errs {
		if err != nil {
			t.Fatalf("%d: error %d", k, api.Code(err))
		}
	}
}

func wantErr(t *testing.T, what any, err error, want api.Errno, id uint32) {
	t.Helper()
	if api.Code(err) != want || want != api.OK && api.At(err) != uint64(id) {
		t.Fatalf("%v: error %d at %d, want %d at %d", what, api.Code(err), api.At(err), want, id)
	}
}

// wantLike holds that all that l tells is the model's.
func wantLike(t *testing.T, l *loan.Loan, m *model) {
	t.Helper()
	st, entries := m.tell()
	if l.ID() != m.id || l.Terms() != m.x || l.Through() != m.through || l.State() != st {
		t.Fatalf("%v: %d, %v, %d, %+v, want %+v", m, l.ID(), l.Terms(), l.Through(), l.State(), st)
	}
	if got := l.Entries(); len(got)+len(entries) > 0 && !reflect.DeepEqual(got, entries) {
		t.Fatalf("%v: %v, want %v", m, got, entries)
	}
	if !slices.Equal(l.Events(), m.past) {
		t.Fatalf("%v, want %v", l.Events(), m.past)
	}
	if !bytes.Equal(l.Bytes(), m.bytes()) {
		t.Fatalf("%v: % x, want % x", m, l.Bytes(), m.bytes())
	}
	for _, today := range []date.Day{0, m.through, m.through + 1, m.x.Start + 40, m.x.Start + 100, m.x.Start + 10000} {
		if got := l.Late(today); got != m.late(today) {
			t.Fatalf("%v: Late(%d) = %d, want %d", m, today, got, m.late(today))
		}
	}
}

// String tells a model in a failure.
func (m *model) String() string {
	return fmt.Sprintf("loan %d: %s, holy %v, events %v, through Start and %d", m.id, m.x.Text(), m.h, m.past, m.through-m.x.Start)
}

// someTerms is terms that may be: small and great ones, their begins all over the days.
func someTerms(g *rand.Rand) terms.Terms {
	return terms.Terms{
		Kind:      byte(1 + g.Intn(2)),
		Principal: 1 + coin.Coin(g.Int63n(api.MaxMoney)>>g.Intn(40)),
		Rate:      yield.Rate{Parts: uint32(g.Intn(api.MaxRate+1)) >> g.Intn(20), Basis: byte(1 + g.Intn(2))},
		Months:    1 + g.Intn(24)>>g.Intn(5),
		Start:     date.Day(g.Intn(terms.MaxStart+1)) >> (g.Intn(2) * g.Intn(32)),
		Fee:       coin.Coin(g.Intn(terms.MaxFee+1) >> g.Intn(31)),
		Grace:     g.Intn(terms.MaxGrace+1) >> g.Intn(7),
	}
}

// someHoly is some days in a row.
func someHoly(g *rand.Rand, x terms.Terms) due.Holy {
	h := due.Holy{}
	for range g.Intn(40) >> g.Intn(6) {
		h = append(h, x.Start+25+date.Day(len(h)))
	}
	return h
}

// someEvent is one around today: mostly one that is taken.
func someEvent(g *rand.Rand, m *model, today date.Day) story.Event {
	st, _ := m.tell()
	d := today - date.Day(g.Intn(34)>>g.Intn(6))
	if g.Intn(4) == 0 {
		d = m.through + 1 - date.Day(g.Intn(3))
	}
	e := story.Event{
		Seq:    uint32(g.Intn(40)),
		Day:    d + date.Day(g.Intn(3)-1)*date.Day(g.Intn(2)),
		Kind:   []byte{4, 4, 4, 4, 4, 5, 5, 6, 6, 7}[g.Intn(10)],
		Amount: 1 + coin.Coin(g.Int63n(int64(m.x.Principal)))>>g.Intn(20),
	}
	if e.Kind == 7 && g.Intn(3) > 0 {
		e.Kind = 4
	}
	switch {
	case e.Kind == 7:
		e.Amount = 0
	case e.Kind == 4 && g.Intn(8) == 0:
		e.Amount = min(max(st.Quote(), 1), api.MaxMoney)
	}
	if g.Intn(20) == 0 {
		e.Amount = -e.Amount
	}
	return e
}

// step does one thing to both, and tells what of it: 0 Take, 100 Reverse, 200 Run, and the error.
func step(t *testing.T, g *rand.Rand, l *loan.Loan, m *model) int {
	t.Helper()
	today := max(m.through+1+date.Day(g.Intn(3)-1), 0)
	switch n := g.Intn(12); {
	case n < 4:
		e := someEvent(g, m, today)
		want := m.take(e, today)
		wantErr(t, e, l.Take(e, today), want, m.id)
		return int(want)
	case n < 6:
		seq := uint32(g.Intn(40))
		if len(m.past) > 0 && g.Intn(3) > 0 {
			seq = m.past[g.Intn(len(m.past))].Event.Seq
		}
		want := m.reverse(seq, today)
		wantErr(t, seq, l.Reverse(seq, today), want, m.id)
		return 100 + int(want)
	}
	days := 1 + g.Intn(20)>>g.Intn(6)
	want := api.OK
	for range days {
		d := m.through + 1 + date.Day(g.Intn(40)/39)
		want = m.run(d)
		wantErr(t, d, l.Run(d), want, m.id)
	}
	return 200 + int(want)
}

// TestAnyLoans: P18.1 to P18.4 and P5, P6, P7, by the model.
func TestAnyLoans(t *testing.T) {
	g := rand.New(rand.NewSource(18))
	told, statuses := map[int]int{}, map[byte]int{}
	for range 400 {
		x := someTerms(g)
		m := newModel(t, g.Uint32()>>g.Intn(32), x, someHoly(g, x))
		l := made(t, m.id, x, m.h...)
		b := ledger.New()
		for range 30 {
			told[step(t, g, l, m)]++
			wantLike(t, l, m)
			if g.Intn(3) == 0 {
				m.sync(t, l, b)
			}
		}
		m.sync(t, l, b)
		statuses[l.State().Status]++
		wantBack(t, l, m)
	}
	for _, n := range []api.Errno{api.OK, api.ErrArg, api.ErrTwice, api.ErrWindow, api.ErrClosed, api.ErrState, 100, 100 + api.ErrNone, 100 + api.ErrState, 100 + api.ErrArg, 100 + api.ErrWindow, 200, 200 + api.ErrArg} {
		if told[int(n)] < 20 {
			t.Fatalf("%d was told %d times", n, told[int(n)])
		}
	}
	for _, n := range []byte{story.Active, story.Closed, story.Lost} {
		if statuses[n] < 20 {
			t.Fatalf("%s is the end of %d", story.Name(n), statuses[n])
		}
	}
}

// wantBack holds that a copy, and what is made of the bytes, is the same loan.
func wantBack(t *testing.T, l *loan.Loan, m *model) {
	t.Helper()
	wantLike(t, l.Copy(), m)
	back, err := loan.Parse(l.Bytes(), m.h)
	must(t, err)
	wantLike(t, back, m)
}
