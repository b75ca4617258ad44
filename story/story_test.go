package story_test

import (
	"math"
	"math/rand"
	"reflect"
	"slices"
	"testing"

	"arrears/api"
	"arrears/chart"
	"arrears/coin"
	"arrears/date"
	"arrears/due"
	"arrears/split"
	"arrears/story"
	"arrears/terms"
	"arrears/yield"
)

// plain is what the chapter's terms are, by Actual: two days' interest is 39, and 165000000 is carried on.
const plain = "level 1200.00 60000 actual 12 2024-01-31 15.00 10"

// loan is the number of the loans told here.
const loan = 4

func read(t *testing.T, s string) terms.Terms {
	t.Helper()
	x, err := terms.Read(s)
	if err != nil {
		t.Fatalf("%q: error %d", s, api.Code(err))
	}
	return x
}

func day(t *testing.T, s string) date.Day {
	t.Helper()
	d, err := date.Read(s)
	if err != nil {
		t.Fatal(s, err)
	}
	return d
}

func made(t *testing.T, s string, h ...date.Day) *story.Story {
	t.Helper()
	x, err := story.New(loan, read(t, s), h)
	if err != nil || x == nil {
		t.Fatalf("%q: error %d", s, api.Code(err))
	}
	return x
}

func pay(seq uint32, d date.Day, n coin.Coin) story.Event {
	return story.Event{Seq: seq, Day: d, Kind: chart.Pay, Amount: n}
}

func fee(seq uint32, d date.Day, n coin.Coin) story.Event {
	return story.Event{Seq: seq, Day: d, Kind: chart.Fee, Amount: n}
}

func waive(seq uint32, d date.Day, n coin.Coin) story.Event {
	return story.Event{Seq: seq, Day: d, Kind: chart.Waive, Amount: n}
}

func off(seq uint32, d date.Day) story.Event {
	return story.Event{Seq: seq, Day: d, Kind: chart.Off}
}

// entry is one of the loan, with accounts and amounts by turns.
func entry(d date.Day, kind byte, seq uint32, legs ...coin.Coin) chart.Entry {
	e := chart.Entry{Key: chart.Key{Loan: loan, Day: d, Kind: kind, Seq: seq}}
	for k := 0; k < len(legs); k += 2 {
		e.Legs = append(e.Legs, chart.Leg{Account: byte(legs[k]), Amount: legs[k+1]})
	}
	return e
}

// entries leaves the accruals out.
func entries(l []chart.Entry) []chart.Entry {
	return slices.DeleteFunc(l, func(e chart.Entry) bool { return e.Key.Kind == chart.Accrue })
}

func wantEntries(t *testing.T, l []chart.Entry, want ...chart.Entry) {
	t.Helper()
	wantSame(t, "entries", story.State{}, story.State{}, l, want)
}

func wantState(t *testing.T, st, want story.State) {
	t.Helper()
	if st != want {
		t.Fatalf("%+v, want %+v", st, want)
	}
}

// P17.1: New, Terms, Dues.

func TestTheWords(t *testing.T) {
	if story.None != 0 || story.Active != 1 || story.Closed != 2 || story.Lost != 3 {
		t.Fatal(story.None, story.Active, story.Closed, story.Lost)
	}
	if story.Pay != 4 || story.Fee != 5 || story.Waive != 6 || story.Off != 7 {
		t.Fatal(story.Pay, story.Fee, story.Waive, story.Off)
	}
}

func TestNewOfWhatIsNotRight(t *testing.T) {
	right := read(t, plain)
	none, kind, months, start, rate := terms.Terms{}, right, right, right, right
	kind.Kind = 3
	months.Months = 481
	start.Start = terms.MaxStart + 1
	rate.Rate.Basis = 0
	falls := due.Holy{738000, 737999}
	for _, id := range []uint32{0, 1, 4, 65536, math.MaxUint32} {
		for _, x := range []terms.Terms{none, kind, months, start, rate} {
			for _, h := range []due.Holy{nil, {738000}, falls} {
				wantFault(t, id, x, h)
			}
		}
		for _, h := range []due.Holy{falls, {738000, 738000}, {-1}, {api.MaxDay + 1}, make(due.Holy, api.MaxHoly+1)} {
			wantFault(t, id, right, h)
		}
	}
}

func wantFault(t *testing.T, id uint32, x terms.Terms, h due.Holy) {
	t.Helper()
	s, err := story.New(id, x, h)
	if s != nil || api.Code(err) != api.ErrArg || api.At(err) != uint64(id) {
		t.Fatalf("New(%d, %v, %v): %v, error %d at %d", id, x, h, s, api.Code(err), api.At(err))
	}
}

func TestTermsAndDues(t *testing.T) {
	eachCourse(t, 300, 5, func(g *rand.Rand, c course, _ date.Day) {
		want, err := c.x.Dues(c.h)
		if err != nil {
			t.Fatal(err)
		}
		if c.s.Terms() != c.x || !slices.Equal(c.s.Dues(), want) {
			t.Fatalf("%v: %v, %v", c, c.s.Terms(), c.s.Dues())
		}
	})
}

func TestHolidaysAreNotKept(t *testing.T) {
	first := day(t, "2024-02-29")
	h := due.Holy{first, first + 1}
	s := made(t, plain, h...)
	want := s.Dues()
	if want[0].Day != first+4 { // a Monday
		t.Fatal(want[0])
	}
	h[0], h[1] = 0, 1
	if !slices.Equal(s.Dues(), want) {
		t.Fatal(s.Dues(), want)
	}
}

func TestDuesAreNewEachTime(t *testing.T) {
	s := made(t, plain)
	want := slices.Clone(s.Dues())
	l := s.Dues()
	clear(l[:cap(l)])
	if !slices.Equal(s.Dues(), want) {
		t.Fatal(s.Dues(), want)
	}
	st, _ := s.Tell(nil, day(t, "2024-03-10"))
	if st.Owed.Fees != 1500 {
		t.Fatal(st)
	}
}

// P17.1: Tell, 1: the begin.

func TestBoard(t *testing.T) {
	s := made(t, plain)
	d := s.Terms().Start
	st, l := s.Tell(nil, d-1)
	wantState(t, st, story.State{Owed: split.Owed{Principal: 120000}, Status: story.Active})
	wantEntries(t, l, entry(d, chart.Board, 0, chart.Cash, -120000, chart.Principal, 120000))
}

func TestNothingAheadOfStart(t *testing.T) {
	for _, start := range []string{"0001-01-01", "0001-01-02", "2024-01-31"} {
		s := made(t, "level 1200.00 60000 actual 12 "+start+" 15.00 10")
		d := s.Terms().Start
		ev := []story.Event{pay(1, d, 7), off(2, d), fee(3, max(d-1, 0), 5)}
		for _, through := range []date.Day{d - 2, d - 3, d - 100, -2, -3, -1000, math.MinInt32, math.MinInt32 + 1} {
			if through > d-2 {
				continue
			}
			for _, l := range [][]story.Event{nil, {}, ev} {
				st, got := s.Tell(l, through)
				if st != (story.State{}) || len(got) != 0 {
					t.Fatalf("%s, %d: %v, %v", start, through, st, got)
				}
			}
		}
	}
}

func TestTheFirstDays(t *testing.T) {
	s := made(t, "only 1000000.00 365000 actual 1 0001-01-01 0.00 0")
	for through, want := range []date.Day{-1, 0, 1} {
		st, l := s.Tell(nil, want)
		n := coin.Coin(through) * 100000
		wantState(t, st, story.State{Owed: split.Owed{Interest: n, Principal: 100000000}, Status: story.Active})
		if len(l) != through+1 {
			t.Fatal(want, l)
		}
	}
}

// P17.1: Tell, 2: events.

func TestEventsOfWhichDays(t *testing.T) {
	s := made(t, plain)
	d := s.Terms().Start
	for at := d - 3; at < d+6; at++ {
		for through := d - 2; through < d+6; through++ {
			_, l := s.Tell([]story.Event{fee(1, at, 100)}, through)
			want := 0
			if d <= at && at <= through+1 {
				want = 1
			}
			n := 0
			for _, e := range l {
				if e.Key.Kind == chart.Fee {
					n++
					wantEntries(t, []chart.Entry{e}, entry(at, chart.Fee, 1, chart.Fees, 100, chart.Charges, -100))
				}
			}
			if n != want {
				t.Fatalf("a fee %d days behind Start, through %d behind it: %d entries, want %d", at-d, through-d, n, want)
			}
		}
	}
}

func TestEventsComeByDayThenSeq(t *testing.T) {
	s := made(t, plain)
	d := s.Terms().Start
	_, l := s.Tell([]story.Event{fee(3, d+1, 1), pay(2, d+2, 2), waive(9, d+1, 3), pay(1, d+2, 4), fee(math.MaxUint32, d, 5), fee(0, d+2, 6), fee(10, d+1, 7)}, d+1)
	var got []uint32
	for _, e := range entries(l)[1:] {
		got = append(got, e.Key.Seq)
	}
	if want := []uint32{math.MaxUint32, 3, 9, 10, 0, 1, 2}; !slices.Equal(got, want) {
		t.Fatal(got, want)
	}
}

func TestEventsComeAheadOfTheDaysEnd(t *testing.T) {
	s := made(t, plain)
	d := s.Terms().Start
	st, l := s.Tell([]story.Event{pay(1, d, 60000)}, d)
	// 600.00 at six in the hundred: 9 and some.
	wantState(t, st, story.State{Owed: split.Owed{Interest: 9, Principal: 60000}, Carry: 3600000000 - 9*365000000, Paid: 60000, Cash: 60000, Status: story.Active})
	wantEntries(t, l[1:],
		entry(d, chart.Pay, 1, chart.Cash, 60000, chart.Principal, -60000, chart.Interest, 0, chart.Fees, 0, chart.Suspense, 0),
		entry(d, chart.Accrue, 0, chart.Interest, 9, chart.Income, -9))
}

func TestPayGoesToFeesThenInterestThenPrincipal(t *testing.T) {
	s := made(t, plain)
	d := s.Terms().Start
	for _, c := range []struct{ amount, fees, interest, principal, left coin.Coin }{
		{1, 1, 0, 0, 0},
		{99, 99, 0, 0, 0},
		{100, 100, 0, 0, 0},
		{101, 100, 1, 0, 0},
		{139, 100, 39, 0, 0},
		{140, 100, 39, 1, 0},
		{120138, 100, 39, 119999, 0},
		{120139, 100, 39, 120000, 0},
		{120140, 100, 39, 120000, 1},
		{api.MaxMoney, 100, 39, 120000, api.MaxMoney - 120139},
	} {
		st, l := s.Tell([]story.Event{fee(1, d, 100), pay(2, d+2, c.amount)}, d+1)
		want := story.State{
			Owed:     split.Owed{Fees: 100 - c.fees, Interest: 39 - c.interest, Principal: 120000 - c.principal},
			Carry:    165000000,
			Paid:     c.interest + c.principal,
			Suspense: c.left,
			Cash:     c.amount,
			Status:   story.Active,
		}
		if c.amount >= 120139 {
			want.Status = story.Closed
		}
		wantState(t, st, want)
		wantEntries(t, l[len(l)-1:], entry(d+2, chart.Pay, 2, chart.Cash, c.amount, chart.Principal, -c.principal, chart.Interest, -c.interest, chart.Fees, -c.fees, chart.Suspense, -c.left))
	}
}

func TestAClosedOne(t *testing.T) {
	s := made(t, plain)
	d := s.Terms().Start
	ev := []story.Event{pay(1, d+2, 120039), fee(2, d+2, 100), waive(3, d+2, 100), off(4, d+2), pay(5, d+2, 70), pay(6, d+60, 7), off(7, d+61), fee(8, d+61, 1)}
	st, l := s.Tell(ev, d+100)
	wantState(t, st, story.State{Carry: 165000000, Paid: 120039, Suspense: 77, Cash: 120116, Status: story.Closed})
	wantEntries(t, l[3:],
		entry(d+2, chart.Pay, 1, chart.Cash, 120039, chart.Principal, -120000, chart.Interest, -39, chart.Fees, 0, chart.Suspense, 0),
		entry(d+2, chart.Pay, 5, chart.Cash, 70, chart.Principal, 0, chart.Interest, 0, chart.Fees, 0, chart.Suspense, -70),
		entry(d+60, chart.Pay, 6, chart.Cash, 7, chart.Principal, 0, chart.Interest, 0, chart.Fees, 0, chart.Suspense, -7))
}

func TestAFeeKeepsItActive(t *testing.T) {
	s := made(t, plain)
	d := s.Terms().Start
	ev := []story.Event{fee(1, d, 1), pay(2, d, 120000)}
	st, _ := s.Tell(ev, d-1)
	wantState(t, st, story.State{Owed: split.Owed{Principal: 1}, Paid: 119999, Cash: 120000, Status: story.Active})
	st, l := s.Tell(append(ev, waive(3, d, 1), pay(4, d, 1)), d-1)
	wantState(t, st, story.State{Paid: 120000, Cash: 120001, Status: story.Closed})
	wantEntries(t, l[3:4], entry(d, chart.Waive, 3, chart.Fees, 0, chart.Charges, 0))
}

func TestInterestKeepsItActive(t *testing.T) {
	s := made(t, plain)
	d := s.Terms().Start
	st, _ := s.Tell([]story.Event{pay(1, d+2, 120000)}, d+1)
	wantState(t, st, story.State{Owed: split.Owed{Principal: 39}, Carry: 165000000, Paid: 120000, Cash: 120000, Status: story.Active})
	st, _ = s.Tell([]story.Event{pay(1, d+2, 120038)}, d+1)
	wantState(t, st, story.State{Owed: split.Owed{Principal: 1}, Carry: 165000000, Paid: 120038, Cash: 120038, Status: story.Active})
}

func TestWaiveIsOfFeesAlone(t *testing.T) {
	s := made(t, plain)
	d := s.Terms().Start
	for _, c := range []struct{ amount, waived coin.Coin }{{1, 1}, {99, 99}, {100, 100}, {101, 100}, {api.MaxMoney, 100}} {
		st, l := s.Tell([]story.Event{fee(1, d+2, 100), waive(2, d+2, c.amount)}, d+1)
		wantState(t, st, story.State{Owed: split.Owed{Fees: 100 - c.waived, Interest: 39, Principal: 120000}, Carry: 165000000, Status: story.Active})
		wantEntries(t, l[len(l)-1:], entry(d+2, chart.Waive, 2, chart.Fees, -c.waived, chart.Charges, c.waived))
	}
	st, l := s.Tell([]story.Event{waive(2, d, 5)}, d-1)
	wantState(t, st, story.State{Owed: split.Owed{Principal: 120000}, Status: story.Active})
	wantEntries(t, l[1:], entry(d, chart.Waive, 2, chart.Fees, 0, chart.Charges, 0))
}

func TestALostOne(t *testing.T) {
	s := made(t, plain)
	d := s.Terms().Start
	ev := []story.Event{fee(1, d, 100), pay(2, d+2, 30), off(3, d+2), fee(4, d+2, 5), waive(5, d+3, 5), off(6, d+3), pay(7, d+3, 8), pay(8, d+90, 120000)}
	st, l := s.Tell(ev, d+100)
	wantState(t, st, story.State{Carry: 165000000, Recovered: 120008, Cash: 120038, Status: story.Lost})
	wantEntries(t, l[4:],
		entry(d+2, chart.Pay, 2, chart.Cash, 30, chart.Principal, 0, chart.Interest, 0, chart.Fees, -30, chart.Suspense, 0),
		entry(d+2, chart.Off, 3, chart.Principal, -120000, chart.Interest, -39, chart.Fees, -70, chart.Loss, 120109),
		entry(d+3, chart.Pay, 7, chart.Cash, 8, chart.Recovered, -8),
		entry(d+90, chart.Pay, 8, chart.Cash, 120000, chart.Recovered, -120000))
}

func TestAllEventsThatThereMayBe(t *testing.T) {
	s := made(t, "only 10000000000.00 1000000 actual 480 2024-01-31 10000000.00 0")
	d := s.Terms().Start
	for _, kind := range []byte{chart.Pay, chart.Fee, chart.Waive} {
		ev := make([]story.Event, api.MaxEvents)
		for k := range ev {
			ev[k] = story.Event{Seq: uint32(k), Day: d + date.Day(k%3), Kind: kind, Amount: api.MaxMoney}
		}
		c := course{loan: loan, x: s.Terms(), s: s, events: ev}
		wantModel(t, c, d+100)
		st, l := s.Tell(ev, d+100)
		wantAccounted(t, c, st, l)
	}
}

// P17.1: Tell, 3: the day's end.

func TestLateOnTheDayOfItsGrace(t *testing.T) {
	for _, c := range []struct {
		terms string
		on    []string
	}{
		{"level 1200.00 60000 actual 3 2024-01-31 15.00 10", []string{"2024-03-10", "2024-04-11", "2024-05-10"}}, // March 31 is a Sunday
		{"level 1200.00 60000 thirty 3 2024-01-31 15.00 0", []string{"2024-02-29", "2024-04-01", "2024-04-30"}},
		{"only 1200.00 60000 actual 2 2023-12-15 0.01 60", []string{"2024-03-15", "2024-04-15"}},
		{"only 1200.00 0 actual 2 2023-12-15 10000000.00 1", []string{"2024-02-16"}}, // in the first month nothing is due
		{"level 1200.00 60000 actual 3 2024-01-31 0.00 10", nil},
	} {
		s := made(t, c.terms)
		st, l := s.Tell(nil, s.Terms().Start+400)
		var want []chart.Entry
		first := 1 + s.Terms().Months - len(c.on)
		n := s.Terms().Fee
		for k, on := range c.on {
			want = append(want, entry(day(t, on), chart.Late, uint32(first+k), chart.Fees, n, chart.Charges, -n))
		}
		wantEntries(t, entries(l)[1:], want...)
		if st.Owed.Fees != coin.Coin(len(want))*n {
			t.Fatal(c, st)
		}
	}
}

func TestLateIsWhatIsNotPaid(t *testing.T) {
	s := made(t, plain)
	first := s.Dues()[0]
	on := first.Day + 10
	for _, c := range []struct {
		ev   []story.Event
		late bool
	}{
		{nil, true},
		{[]story.Event{pay(1, first.Day, first.Sum)}, false},
		{[]story.Event{pay(1, on, first.Sum)}, false}, // that day's events are ahead of its end
		{[]story.Event{pay(1, on, first.Sum-1)}, true},
		{[]story.Event{pay(1, on, first.Sum+1)}, false},
		{[]story.Event{pay(1, on-1, first.Sum-1), pay(2, on, 1)}, false},
		{[]story.Event{pay(1, on+1, first.Sum)}, true},
		{[]story.Event{fee(1, on-1, 1), pay(2, on, first.Sum)}, true}, // what goes to fees isn't Paid
		{[]story.Event{fee(1, on-1, 1), pay(2, on, first.Sum+1)}, false},
		{[]story.Event{fee(1, on-1, 1), waive(2, on, 1), pay(3, on, first.Sum)}, false},
		{[]story.Event{pay(1, on, api.MaxMoney)}, false},
		{[]story.Event{off(1, on)}, false},
		{[]story.Event{off(1, on+1)}, true},
	} {
		want := coin.Coin(0)
		if c.late {
			want = 1500
		}
		_, l := s.Tell(c.ev, on)
		if got := sums(l, chart.Fees, chart.Late); got != want {
			t.Fatalf("%v: late fees of %d, want %d", c.ev, got, want)
		}
	}
}

func TestMonthsThatAreDueOnOneDay(t *testing.T) {
	// From February 29 to April 30 nothing is done: three months are due on May 1.
	from := day(t, "2024-02-29")
	h := make(due.Holy, 62)
	for k := range h {
		h[k] = from + date.Day(k)
	}
	s := made(t, plain, h...)
	dues := s.Dues()
	d := day(t, "2024-05-01")
	if dues[0].Day != d || dues[1].Day != d || dues[2].Day != d || dues[3].Day == d {
		t.Fatal(dues)
	}
	first := dues[0].Sum
	_, l := s.Tell([]story.Event{pay(1, d, first)}, d+10)
	wantEntries(t, entries(l)[2:],
		entry(d+10, chart.Late, 2, chart.Fees, 1500, chart.Charges, -1500),
		entry(d+10, chart.Late, 3, chart.Fees, 1500, chart.Charges, -1500))
	_, l = s.Tell(nil, d+10)
	wantEntries(t, entries(l)[1:],
		entry(d+10, chart.Late, 1, chart.Fees, 1500, chart.Charges, -1500),
		entry(d+10, chart.Late, 2, chart.Fees, 1500, chart.Charges, -1500),
		entry(d+10, chart.Late, 3, chart.Fees, 1500, chart.Charges, -1500))
}

func TestTheDaysEndInItsOrder(t *testing.T) {
	s := made(t, plain)
	on := s.Dues()[0].Day + 10
	_, l := s.Tell([]story.Event{fee(5, on, 100)}, on)
	var kinds []byte
	for _, e := range l[len(l)-4:] {
		kinds = append(kinds, e.Key.Kind)
	}
	if !slices.Equal(kinds, []byte{chart.Accrue, chart.Fee, chart.Late, chart.Accrue}) {
		t.Fatal(kinds)
	}
}

func TestNoEndOfTheDayBehindThrough(t *testing.T) {
	s := made(t, plain)
	on := s.Dues()[0].Day + 10
	st, l := s.Tell([]story.Event{fee(5, on, 100)}, on-1)
	if st.Owed.Fees != 100 || l[len(l)-1].Key.Kind != chart.Fee || l[len(l)-2].Key.Day != on-1 {
		t.Fatal(st, l[len(l)-2:])
	}
}

func TestAccrualsOfNothing(t *testing.T) {
	s := made(t, "level 1200.00 0 actual 12 2024-01-31 0.00 10")
	d := s.Terms().Start
	st, l := s.Tell(nil, d+9)
	wantState(t, st, story.State{Owed: split.Owed{Principal: 120000}, Status: story.Active})
	if len(l) != 11 {
		t.Fatal(l)
	}
	for k, e := range l[1:] {
		wantEntries(t, []chart.Entry{e}, entry(d+date.Day(k), chart.Accrue, 0, chart.Interest, 0, chart.Income, 0))
	}
	// By thirty, January 31 adds nothing, and February 29 two days.
	s = made(t, "level 3600.00 1000000 thirty 12 2024-01-31 0.00 10")
	_, l = s.Tell(nil, d+29)
	for k, want := range map[int]coin.Coin{1: 0, 2: 1000, 29: 1000, 30: 2000} {
		if got := l[k].Of(chart.Interest); got != want {
			t.Fatalf("day %d: %d, want %d", k, got, want)
		}
	}
}

func TestNoInterestOnInterest(t *testing.T) {
	s := made(t, "only 1000.00 365000 actual 480 2024-01-31 1000.00 0")
	st, _ := s.Tell(nil, s.Terms().Start+999)
	if st.Owed.Interest != 1000*100 || st.Owed.Fees == 0 || st.Carry != 0 {
		t.Fatal(st)
	}
}

func TestTheFurthestDay(t *testing.T) {
	s := made(t, "only 10000000000.00 1000000 thirty 480 9857-06-20 10000000.00 60")
	if s.Terms().Start > terms.MaxStart || s.Terms().Start < terms.MaxStart-400 {
		t.Fatal(s.Terms().Start)
	}
	x := s.Terms()
	x.Start = terms.MaxStart
	s, err := story.New(loan, x, nil)
	if err != nil {
		t.Fatal(err)
	}
	last := date.Day(terms.MaxStart + 40000)
	c := course{loan: loan, x: x, s: s, events: []story.Event{fee(1, last, 9), pay(2, last+1, 10), fee(3, last+2, 11)}}
	wantModel(t, c, last)
	st, l := s.Tell(c.events, last)
	wantAccounted(t, c, st, l)
	if len(l) != 1+40001+480+2 || st.Cash != 10 {
		t.Fatal(len(l), st)
	}
}

func TestFromTheFirstDayToTheFurthest(t *testing.T) {
	s := made(t, "only 1200.00 60000 thirty 1 0001-01-01 0.00 0")
	last := date.Day(terms.MaxStart + 40000)
	st, l := s.Tell([]story.Event{off(1, 3), pay(2, last, 5), pay(3, last+1, 6)}, last)
	wantState(t, st, story.State{Carry: 60000 * 120000 * 3 % 360000000, Recovered: 11, Cash: 11, Status: story.Lost})
	if len(l) != 7 || l[6].Key.Day != last+1 {
		t.Fatal(l)
	}
}

// What nothing is promised of.

func TestWhatMayNotBeEnds(t *testing.T) {
	s := made(t, plain)
	d := s.Terms().Start
	amounts := []coin.Coin{0, 1, -1, -120000, 120000, api.MaxMoney, api.MaxMoney + 1, math.MaxInt64, math.MinInt64, math.MinInt64 + 1}
	days := []date.Day{math.MinInt32, -1, 0, d - 1, d, d + 1, api.MaxDay, api.MaxDay + 1, math.MaxInt32}
	var all []story.Event
	for _, kind := range []byte{0, 1, 3, 4, 5, 6, 7, 8, 255} {
		for _, at := range days {
			for _, n := range amounts {
				e := story.Event{Day: at, Kind: kind, Amount: n}
				s.Tell([]story.Event{e}, d+1)
				s.Tell([]story.Event{e, e}, d+1)
				all = append(all, e)
			}
		}
	}
	g := rand.New(rand.NewSource(1))
	for range 100 {
		g.Shuffle(len(all), func(a, b int) { all[a], all[b] = all[b], all[a] })
		s.Tell(all, d+1)
	}
	for _, through := range []date.Day{-3, math.MinInt32, terms.MaxStart + 40001, api.MaxDay - 1, api.MaxDay, api.MaxDay + 1, math.MaxInt32 - 1, math.MaxInt32} {
		s.Tell(nil, through)
		s.Tell(all, through)
	}
}

func TestTooManyEventsEnd(t *testing.T) {
	s := made(t, plain)
	d := s.Terms().Start
	for _, kind := range []byte{chart.Pay, chart.Fee, chart.Waive, chart.Off} {
		e := story.Event{Seq: 1, Day: d, Kind: kind, Amount: api.MaxMoney}
		if kind == chart.Off {
			e.Amount = 0
		}
		l := slices.Repeat([]story.Event{e}, 20000)
		s.Tell(append(l, pay(2, d+1, 5), fee(3, d+1, 5), waive(4, d+1, 5), off(5, d+1)), d+1)
	}
}

func TestANilStory(t *testing.T) {
	var s *story.Story
	for _, through := range []date.Day{-2, 0, 738915, math.MaxInt32, math.MinInt32} {
		st, l := s.Tell([]story.Event{pay(1, 738915, 5)}, through)
		if st != (story.State{}) || len(l) != 0 {
			t.Fatal(st, l)
		}
	}
	if s.Terms() != (terms.Terms{}) || len(s.Dues()) != 0 {
		t.Fatal(s.Terms(), s.Dues())
	}
}

// What is handed in, and what is answered.

func TestEventsAreNotChanged(t *testing.T) {
	eachCourse(t, 200, 60, func(g *rand.Rand, c course, through date.Day) {
		l := append(slices.Clone(c.events), pay(77, c.x.Start, 5), off(78, 0), fee(79, c.x.Start, 6))
		n := len(l) - 2
		want := slices.Clone(l)
		c.s.Tell(l[:n], through)
		story.Sort(l[:n])
		if !slices.Equal(l, want) {
			t.Fatalf("%v: %v, want %v", c, l, want)
		}
	})
}

func TestAnswersAreNewMemory(t *testing.T) {
	eachCourse(t, 200, 60, func(g *rand.Rand, c course, through date.Day) {
		_, first := c.s.Tell(c.events, through)
		_, second := c.s.Tell(c.events, through)
		want, wantL := modelTell(c.loan, c.x, c.s.Dues(), c.events, through)
		for _, e := range first[:cap(first)] {
			clear(e.Legs[:cap(e.Legs)])
		}
		clear(first[:cap(first)])
		wantSame(t, c, want, want, second, wantL)
		// No entry's legs are another's, spare room neither.
		for _, e := range second {
			for range cap(e.Legs) - len(e.Legs) {
				e.Legs = append(e.Legs, chart.Leg{Account: 99, Amount: 99})
			}
		}
		wantSame(t, c, want, want, second, wantL)
		st, l := c.s.Tell(c.events, through)
		wantSame(t, c, st, want, l, wantL)
	})
}

func TestWhatWasToldStays(t *testing.T) {
	s := made(t, plain)
	d := s.Terms().Start
	ev := []story.Event{fee(1, d, 100), pay(2, d+1, 50)}
	st, l := s.Tell(ev, d+1)
	wantSt, want := modelTell(loan, s.Terms(), s.Dues(), slices.Clone(ev), d+1)
	ev[0], ev[1] = off(1, d), off(2, d)
	s.Tell(ev, d+9)
	wantSame(t, "told", st, wantSt, l, want)
}

// P17.1: Sort.

func TestSort(t *testing.T) {
	l := []story.Event{pay(2, 9, 1), pay(1, 9, 2), fee(1, 8, 3), off(1, 9), pay(math.MaxUint32, -1, 4), waive(1, 9, 5), pay(0, 9, 6), pay(1, math.MaxInt32, 7), pay(1, math.MinInt32, 8)}
	want := []story.Event{pay(1, math.MinInt32, 8), pay(math.MaxUint32, -1, 4), fee(1, 8, 3), pay(0, 9, 6), pay(1, 9, 2), off(1, 9), waive(1, 9, 5), pay(2, 9, 1), pay(1, math.MaxInt32, 7)}
	if got := story.Sort(l); !slices.Equal(got, want) {
		t.Fatal(got)
	}
	if len(story.Sort(nil)) != 0 || len(story.Sort([]story.Event{})) != 0 {
		t.Fatal("of nothing")
	}
}

func TestSortKeepsWhatStoodSo(t *testing.T) {
	g := rand.New(rand.NewSource(3))
	for n := range 400 {
		l := make([]story.Event, n)
		for k := range l {
			// The amount tells the place.
			l[k] = story.Event{Seq: uint32(g.Intn(4)), Day: date.Day(g.Intn(4)), Kind: byte(g.Intn(9)), Amount: coin.Coin(k)}
		}
		before := slices.Clone(l)
		got := story.Sort(l)
		if !slices.Equal(l, before) || len(got) != n {
			t.Fatal(l, got)
		}
		seen := map[story.Event]bool{}
		for k, e := range got {
			seen[e] = true
			if l[e.Amount] != e {
				t.Fatal(e)
			}
			if k == 0 {
				continue
			}
			a := got[k-1]
			if a.Day > e.Day || a.Day == e.Day && (a.Seq > e.Seq || a.Seq == e.Seq && a.Amount > e.Amount) {
				t.Fatalf("%v ahead of %v", a, e)
			}
		}
		if len(seen) != n {
			t.Fatal(seen)
		}
	}
}

func TestSortIsNewMemory(t *testing.T) {
	backing := []story.Event{pay(1, 1, 1), pay(2, 2, 2), pay(3, 3, 3)}
	for n := range 3 {
		got := story.Sort(backing[:n])
		clear(got[:cap(got)])
		if !reflect.DeepEqual(backing, []story.Event{pay(1, 1, 1), pay(2, 2, 2), pay(3, 3, 3)}) {
			t.Fatal(n, backing)
		}
	}
}

// P17.2: Right, Quote, Name.

func TestRight(t *testing.T) {
	days := map[date.Day]bool{math.MinInt32: false, -1: false, 0: true, 1: true, 738915: true, api.MaxDay: true, api.MaxDay + 1: false, math.MaxInt32: false}
	amounts := map[coin.Coin]bool{math.MinInt64: false, -api.MaxMoney: false, -1: false, 0: false, 1: true, 120000: true, api.MaxMoney: true, api.MaxMoney + 1: false, math.MaxInt64: false}
	for kind := range 256 {
		for d, dayRight := range days {
			for n, amountRight := range amounts {
				want := dayRight && amountRight && (kind == 4 || kind == 5 || kind == 6) || dayRight && kind == 7 && n == 0
				for _, seq := range []uint32{0, 1, math.MaxUint32} {
					e := story.Event{Seq: seq, Day: d, Kind: byte(kind), Amount: n}
					if e.Right() != want {
						t.Fatalf("%v: %v", e, !want)
					}
				}
			}
		}
	}
}

func TestQuote(t *testing.T) {
	other := story.State{Carry: 1, Paid: 2, Suspense: 3, Recovered: 4, Cash: 5, Status: story.Lost}
	for _, c := range []struct {
		owed split.Owed
		want coin.Coin
	}{
		{split.Owed{}, 0},
		{split.Owed{Fees: 1}, 1},
		{split.Owed{Interest: 2}, 2},
		{split.Owed{Principal: 3}, 3},
		{split.Owed{Fees: 1500, Interest: 39, Principal: 120000}, 121539},
		{split.Owed{Principal: math.MaxInt64}, math.MaxInt64},
		{split.Owed{Fees: 1, Principal: math.MaxInt64 - 1}, math.MaxInt64},
	} {
		st := other
		st.Owed = c.owed
		if st.Quote() != c.want || (story.State{Owed: c.owed}).Quote() != c.want {
			t.Fatalf("%v: %d", c.owed, st.Quote())
		}
	}
}

func TestQuoteOfWhatMayNotBeEnds(t *testing.T) {
	edges := []coin.Coin{math.MinInt64, -1, 0, 1, math.MaxInt64}
	for _, a := range edges {
		for _, b := range edges {
			for _, c := range edges {
				story.State{Owed: split.Owed{Fees: a, Interest: b, Principal: c}}.Quote()
			}
		}
	}
}

func TestName(t *testing.T) {
	for n := range 256 {
		want := ""
		if n < 4 {
			want = []string{"none", "active", "closed", "lost"}[n]
		}
		if got := story.Name(byte(n)); got != want {
			t.Fatalf("%d: %q", n, got)
		}
	}
}

// P17.1 and P17.3, by an example told to its end.

func TestALoanPaidToItsEnd(t *testing.T) {
	s := made(t, "level 1200.00 60000 thirty 12 2024-01-31 15.00 10")
	var ev []story.Event
	paid := coin.Coin(0)
	for k, d := range s.Dues() {
		ev = append(ev, pay(uint32(k), d.Day, d.Sum-paid))
		paid = d.Sum
	}
	last := s.Dues()[11].Day
	c := course{loan: loan, x: s.Terms(), s: s, events: ev}
	wantModel(t, c, last+400)
	st, l := s.Tell(ev, last+400)
	wantAccounted(t, c, st, l)
	// Told by days, the interest is 1 less than told by months, each to the nearest: that one is left over.
	wantState(t, st, story.State{Carry: st.Carry, Paid: paid - 1, Suspense: 1, Cash: paid, Status: story.Closed})
	if n := sums(l, chart.Fees, chart.Late); n != 0 || l[len(l)-1].Key.Day != last {
		t.Fatal(n, l[len(l)-1])
	}
}

func TestDaysAreByTheRate(t *testing.T) {
	x := read(t, plain)
	x.Rate = yield.Rate{Parts: 1000000, Basis: 2}
	s, err := story.New(loan, x, due.Holy{})
	if err != nil {
		t.Fatal(err)
	}
	// A year of 360 days in all: as much again as the principal.
	from, through := day(t, "2025-01-01"), day(t, "2025-12-31")
	a, _ := s.Tell(nil, from-1)
	b, _ := s.Tell(nil, through)
	if b.Owed.Interest-a.Owed.Interest != 120000 || a.Carry != b.Carry {
		t.Fatal(a, b)
	}
}
