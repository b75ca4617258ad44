package story_test

import (
	"math/rand"
	"reflect"
	"slices"
	"sort"
	"testing"
	"time"

	"arrears/api"
	"arrears/chart"
	"arrears/coin"
	"arrears/date"
	"arrears/due"
	"arrears/late"
	"arrears/span"
	"arrears/split"
	"arrears/story"
	"arrears/terms"
	"arrears/yield"
)

// model is a story told word by word.
type model struct {
	loan    uint32
	x       terms.Terms
	st      story.State
	entries []chart.Entry
}

// add adds an entry, with its legs by their accounts.
func (m *model) add(d date.Day, kind byte, seq uint32, amounts map[byte]coin.Coin) {
	e := chart.Entry{Key: chart.Key{Loan: m.loan, Day: d, Kind: kind, Seq: seq}}
	for account := range 10 {
		if amount, ok := amounts[byte(account)]; ok {
			e.Legs = append(e.Legs, chart.Leg{Account: byte(account), Amount: amount})
		}
	}
	m.entries = append(m.entries, e)
}

// modelDays is what the day d adds to its month, by the library's calendar.
func modelDays(basis byte, d date.Day) uint64 {
	if basis == span.Actual {
		return 1
	}
	at := time.Date(1, 1, 1+int(d), 0, 0, 0, 0, time.UTC)
	if at.AddDate(0, 0, 1).Day() == 1 { // the month's last day brings what lacks of 30 days, and none behind them
		return uint64(max(31-at.Day(), 0))
	}
	return 1
}

func (m *model) pay(e story.Event) {
	left := e.Amount
	m.st.Cash += e.Amount
	if m.st.Status == story.Lost {
		m.st.Recovered += e.Amount
		m.add(e.Day, 4, e.Seq, map[byte]coin.Coin{chart.Cash: e.Amount, chart.Recovered: -e.Amount})
		return
	}
	part := func(owed *coin.Coin) coin.Coin {
		n := left
		if *owed < n {
			n = *owed
		}
		*owed -= n
		left -= n
		return n
	}
	fees := part(&m.st.Owed.Fees)
	interest := part(&m.st.Owed.Interest)
	principal := part(&m.st.Owed.Principal)
	m.st.Paid += interest + principal
	m.st.Suspense += left
	m.add(e.Day, 4, e.Seq, map[byte]coin.Coin{chart.Cash: e.Amount, chart.Fees: -fees, chart.Interest: -interest, chart.Principal: -principal, chart.Suspense: -left})
}

func (m *model) event(e story.Event) {
	o := &m.st.Owed
	active := m.st.Status == story.Active
	switch {
	case e.Kind == 4:
		m.pay(e)
	case e.Kind == 5 && active:
		o.Fees += e.Amount
		m.add(e.Day, 5, e.Seq, map[byte]coin.Coin{chart.Fees: e.Amount, chart.Charges: -e.Amount})
	case e.Kind == 6 && active:
		n := e.Amount
		if o.Fees < n {
			n = o.Fees
		}
		o.Fees -= n
		m.add(e.Day, 6, e.Seq, map[byte]coin.Coin{chart.Charges: n, chart.Fees: -n})
	case e.Kind == 7 && active:
		m.add(e.Day, 7, e.Seq, map[byte]coin.Coin{chart.Loss: o.Fees + o.Interest + o.Principal, chart.Principal: -o.Principal, chart.Interest: -o.Interest, chart.Fees: -o.Fees})
		*o = split.Owed{}
		m.st.Status = story.Lost
	}
	if m.st.Status == story.Active && o.Fees == 0 && o.Interest == 0 && o.Principal == 0 {
		m.st.Status = story.Closed
	}
}

func (m *model) end(dues []late.Due, d date.Day) {
	if m.st.Status != story.Active {
		return
	}
	for k, x := range dues {
		if int(x.Day)+m.x.Grace == int(d) && m.st.Paid < x.Sum && m.x.Fee != 0 {
			m.st.Owed.Fees += m.x.Fee
			m.add(d, 3, uint32(k+1), map[byte]coin.Coin{chart.Fees: m.x.Fee, chart.Charges: -m.x.Fee})
		}
	}
	unit := uint64(365000000)
	if m.x.Rate.Basis == span.Thirty {
		unit = 360000000
	}
	pieces := m.st.Carry + uint64(m.st.Owed.Principal)*uint64(m.x.Rate.Parts)*modelDays(m.x.Rate.Basis, d)
	n := coin.Coin(pieces / unit)
	m.st.Carry = pieces % unit
	m.st.Owed.Interest += n
	m.add(d, 2, 0, map[byte]coin.Coin{chart.Interest: n, chart.Income: -n})
}

// modelTell is Tell of that loan.
func modelTell(loan uint32, x terms.Terms, dues []late.Due, l []story.Event, through date.Day) (story.State, []chart.Entry) {
	m := &model{loan: loan, x: x}
	byDay := map[date.Day][]story.Event{}
	for _, e := range l {
		byDay[e.Day] = append(byDay[e.Day], e)
	}
	for d := x.Start; d <= through+1; d++ {
		if d == x.Start {
			m.st.Owed.Principal = x.Principal
			m.st.Status = story.Active
			m.add(d, 1, 0, map[byte]coin.Coin{chart.Principal: x.Principal, chart.Cash: -x.Principal})
		}
		today := byDay[d]
		sort.SliceStable(today, func(a, b int) bool { return today[a].Seq < today[b].Seq })
		for _, e := range today {
			m.event(e)
		}
		if d <= through {
			m.end(dues, d)
		}
	}
	return m.st, m.entries
}

func wantSame(t *testing.T, what any, st, wantState story.State, l, want []chart.Entry) {
	t.Helper()
	if st != wantState {
		t.Fatalf("%v: state %+v, want %+v", what, st, wantState)
	}
	if len(l) != len(want) {
		t.Fatalf("%v: %d entries, want %d", what, len(l), len(want))
	}
	for k := range l {
		if !reflect.DeepEqual(l[k], want[k]) {
			t.Fatalf("%v: entry %d is %v, want %v", what, k, l[k], want[k])
		}
	}
}

// wantModel asks the story for just what the model tells.
func wantModel(t *testing.T, c course, through date.Day) {
	t.Helper()
	st, l := c.s.Tell(c.events, through)
	wantState, want := modelTell(c.loan, c.x, c.s.Dues(), c.events, through)
	wantSame(t, c, st, wantState, l, want)
}

// course is a loan, and what happened to it.
type course struct {
	loan   uint32
	x      terms.Terms
	h      due.Holy
	s      *story.Story
	events []story.Event
}

// someTerms is terms that may be: small and great ones, their begins all over the days.
func someTerms(g *rand.Rand) terms.Terms {
	return terms.Terms{
		Kind:      byte(1 + g.Intn(2)),
		Principal: 1 + coin.Coin(g.Int63n(api.MaxMoney)>>g.Intn(40)),
		Rate:      yield.Rate{Parts: uint32(g.Intn(api.MaxRate+1)) >> g.Intn(20), Basis: byte(1 + g.Intn(2))},
		Months:    1 + g.Intn(24)>>g.Intn(5),
		Start:     date.Day(g.Intn(terms.MaxStart + 1)),
		Fee:       coin.Coin(g.Intn(terms.MaxFee+1) >> g.Intn(31)),
		Grace:     g.Intn(terms.MaxGrace+1) >> g.Intn(7),
	}
}

// someHoly is holidays in a row here and there, some as long as months.
func someHoly(g *rand.Rand, start date.Day) due.Holy {
	h := due.Holy{}
	d := start + date.Day(g.Intn(30))
	for range g.Intn(4) {
		for range 1 + g.Intn(60)>>g.Intn(6) {
			h = append(h, d)
			d++
		}
		d += date.Day(1 + g.Intn(50))
	}
	return h
}

// someAmount is one by which something may come to its edge on the day.
func someAmount(g *rand.Rand, c course, d date.Day) coin.Coin {
	st, _ := c.s.Tell(c.events, d-1)
	dues := c.s.Dues()
	n := []coin.Coin{
		st.Quote(),
		st.Owed.Fees,
		st.Owed.Fees + st.Owed.Interest,
		dues[g.Intn(len(dues))].Sum - st.Paid + st.Owed.Fees,
		1 + coin.Coin(g.Int63n(int64(c.x.Principal)))>>g.Intn(20),
		1 + coin.Coin(g.Int63n(api.MaxMoney))>>g.Intn(41),
	}[g.Intn(6)]
	return min(max(n+coin.Coin(g.Intn(3)-1)*coin.Coin(g.Intn(2)), 1), api.MaxMoney)
}

// someCourse is any course of so many days, its events in any order.
func someCourse(t *testing.T, g *rand.Rand, days int) course {
	t.Helper()
	c := course{loan: g.Uint32() >> g.Intn(32), x: someTerms(g)}
	c.h = someHoly(g, c.x.Start)
	s, err := story.New(c.loan, c.x, c.h)
	if err != nil {
		t.Fatalf("New(%d, %v, %v): error %d", c.loan, c.x, c.h, api.Code(err))
	}
	c.s = s
	seqs := g.Perm(100)
	for _, seq := range seqs[:g.Intn(14)] {
		d := max(c.x.Start-2+date.Day(g.Intn(days)), 0)
		e := story.Event{Seq: uint32(seq), Day: d, Kind: []byte{4, 4, 4, 4, 5, 5, 6, 6, 7}[g.Intn(9)]}
		if e.Kind == 7 && g.Intn(3) > 0 {
			e.Kind = 4
		}
		if e.Kind != 7 {
			e.Amount = someAmount(g, c, d)
		}
		c.events = append(c.events, e)
	}
	return c
}

// eachCourse goes through many courses, each with a day through which to tell it.
func eachCourse(t *testing.T, n, days int, do func(g *rand.Rand, c course, through date.Day)) {
	t.Helper()
	g := rand.New(rand.NewSource(17))
	for range n {
		c := someCourse(t, g, days)
		do(g, c, c.x.Start-3+date.Day(g.Intn(days+6)))
	}
}

// P17.1: Tell, by the model.

func TestTellIsTheModels(t *testing.T) {
	statuses := map[byte]int{}
	kinds := map[byte]int{}
	eachCourse(t, 6000, 150, func(g *rand.Rand, c course, through date.Day) {
		wantModel(t, c, through)
		st, l := c.s.Tell(c.events, through)
		statuses[st.Status]++
		for _, e := range l {
			kinds[e.Key.Kind]++
		}
	})
	// All that may be is to be seen, often.
	for n := range 4 {
		if statuses[byte(n)] < 50 {
			t.Fatal(statuses)
		}
	}
	for n := 1; n <= 7; n++ {
		if kinds[byte(n)] < 50 {
			t.Fatal(kinds)
		}
	}
}

func TestTellOfLongCourses(t *testing.T) {
	eachCourse(t, 60, 1200, func(g *rand.Rand, c course, through date.Day) { wantModel(t, c, through) })
}

func TestTellDayByDay(t *testing.T) {
	eachCourse(t, 40, 80, func(g *rand.Rand, c course, _ date.Day) {
		for through := max(c.x.Start-4, -2); through <= c.x.Start+85; through++ {
			wantModel(t, c, through)
		}
	})
}

func TestTellInAnyOrder(t *testing.T) {
	eachCourse(t, 600, 100, func(g *rand.Rand, c course, through date.Day) {
		want, wantEntries := c.s.Tell(c.events, through)
		for range 4 {
			g.Shuffle(len(c.events), func(a, b int) { c.events[a], c.events[b] = c.events[b], c.events[a] })
			st, l := c.s.Tell(c.events, through)
			wantSame(t, c, st, want, l, wantEntries)
		}
	})
}

func TestTellSaysTheSameEachTime(t *testing.T) {
	eachCourse(t, 200, 100, func(g *rand.Rand, c course, through date.Day) {
		want, wantEntries := c.s.Tell(c.events, through)
		c.s.Tell(nil, through+9)
		c.s.Tell(c.events, through-5)
		st, l := c.s.Tell(c.events, through)
		wantSame(t, c, st, want, l, wantEntries)
		other, err := story.New(c.loan, c.x, c.h)
		if err != nil {
			t.Fatal(err)
		}
		st, l = other.Tell(c.events, through)
		wantSame(t, c, st, want, l, wantEntries)
	})
}

// P17.3: all is accounted for.

// sums is what all entries of the kinds have of the account; of no kinds: of all of them.
func sums(l []chart.Entry, account byte, kinds ...byte) coin.Coin {
	sum := coin.Coin(0)
	for _, e := range l {
		if len(kinds) == 0 || slices.Contains(kinds, e.Key.Kind) {
			sum += e.Of(account)
		}
	}
	return sum
}

func wantAccounted(t *testing.T, c course, st story.State, l []chart.Entry) {
	t.Helper()
	paid := func(account byte) coin.Coin { return -sums(l, account, chart.Pay) }
	principal := coin.Coin(0)
	if len(l) > 0 {
		principal = c.x.Principal
	}
	for k, pair := range [][2]coin.Coin{
		{st.Cash, paid(chart.Fees) + paid(chart.Interest) + paid(chart.Principal) + st.Suspense + st.Recovered},
		{st.Cash, sums(l, chart.Cash) + principal},
		{st.Paid, paid(chart.Interest) + paid(chart.Principal)},
		{st.Suspense, -sums(l, chart.Suspense)},
		{st.Recovered, -sums(l, chart.Recovered)},
		{st.Owed.Principal, sums(l, chart.Principal)},
		{st.Owed.Interest, sums(l, chart.Interest)},
		{st.Owed.Fees, sums(l, chart.Fees)},
	} {
		if pair[0] != pair[1] {
			t.Fatalf("%v: %+v: sum %d: %d, %d", c, st, k, pair[0], pair[1])
		}
	}
	keys := map[chart.Key]bool{}
	for k, e := range l {
		if !e.Right() || e.Key.Loan != c.loan || keys[e.Key] {
			t.Fatalf("%v: entry %d: %v", c, k, e)
		}
		keys[e.Key] = true
		if k > 0 && e.Key.Day < l[k-1].Key.Day {
			t.Fatalf("%v: entry %d: %v behind %v", c, k, e, l[k-1])
		}
	}
}

func TestAllIsAccountedFor(t *testing.T) {
	eachCourse(t, 4000, 150, func(g *rand.Rand, c course, through date.Day) {
		st, l := c.s.Tell(c.events, through)
		wantAccounted(t, c, st, l)
	})
}

// upTo is the events up to the end of the day.
func upTo(l []story.Event, d date.Day) []story.Event {
	return slices.DeleteFunc(slices.Clone(l), func(e story.Event) bool { return e.Day > d })
}

func TestOneAccrualForEachActiveDay(t *testing.T) {
	eachCourse(t, 300, 60, func(g *rand.Rand, c course, through date.Day) {
		_, l := c.s.Tell(c.events, through)
		accruals := map[date.Day]int{}
		for _, e := range l {
			if e.Key.Kind == chart.Accrue {
				accruals[e.Key.Day]++
			}
		}
		for d := c.x.Start; d <= through; d++ {
			st, _ := c.s.Tell(upTo(c.events, d), d)
			want := 0
			if st.Status == story.Active {
				want = 1
			}
			if accruals[d] != want {
				t.Fatalf("%v: day %d: %d accruals, want %d", c, d, accruals[d], want)
			}
			delete(accruals, d)
		}
		if len(accruals) != 0 {
			t.Fatalf("%v: accruals of other days: %v", c, accruals)
		}
	})
}

func TestWhatAccruesIsTheInterestOfAllDays(t *testing.T) {
	g := rand.New(rand.NewSource(173))
	for range 400 {
		c := someCourse(t, g, 20)
		// From behind the last event on, the principal stays.
		first := c.x.Start + 20
		from, _ := c.s.Tell(c.events, first-1)
		if from.Status != story.Active {
			continue
		}
		days := 0
		for d := first; d < first+200; d++ {
			days += int(modelDays(c.x.Rate.Basis, d))
			st, l := c.s.Tell(c.events, d)
			want, carry, err := c.x.Rate.Days(from.Owed.Principal, days, from.Carry)
			if err != nil {
				t.Fatal(err)
			}
			if st.Owed.Interest-from.Owed.Interest != want || st.Carry != carry || l[len(l)-1].Key.Kind != chart.Accrue {
				t.Fatalf("%v: %d days: %v from %v on, want %d and %d", c, days, st, from, want, carry)
			}
		}
	}
}
