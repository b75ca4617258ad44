package loan_test

import (
	"bytes"
	"math"
	"slices"
	"testing"

	"arrears/api"
	"arrears/chart"
	"arrears/coin"
	"arrears/date"
	"arrears/due"
	"arrears/ledger"
	"arrears/loan"
	"arrears/split"
	"arrears/story"
	"arrears/terms"
)

// plain is what the chapters' terms are, by Actual: two days' interest is 39.
const plain = "level 1200.00 60000 actual 12 2024-01-31 15.00 10"

// id is the number of most loans here.
const id = 4

var ids = []uint32{0, 1, id, 65536, math.MaxUint32}

func read(t *testing.T, s string) terms.Terms {
	t.Helper()
	x, err := terms.Read(s)
	must(t, err)
	return x
}

func made(t *testing.T, n uint32, x terms.Terms, h ...date.Day) *loan.Loan {
	t.Helper()
	l, err := loan.New(n, x, h)
	must(t, err)
	return l
}

// ran is the plain loan, run through so many days, and its Start.
func ran(t *testing.T, days int) (*loan.Loan, date.Day) {
	t.Helper()
	l := made(t, id, read(t, plain))
	run(t, l, days)
	return l, l.Terms().Start
}

func run(t *testing.T, l *loan.Loan, days int) {
	t.Helper()
	for range days {
		must(t, l.Run(l.Through()+1))
	}
}

func pay(seq uint32, d date.Day, n coin.Coin) story.Event {
	return story.Event{Seq: seq, Day: d, Kind: chart.Pay, Amount: n}
}

func fee(seq uint32, d date.Day, n coin.Coin) story.Event {
	return story.Event{Seq: seq, Day: d, Kind: chart.Fee, Amount: n}
}

func waive(seq uint32, d date.Day, n coin.Coin) story.Event {
	return story.Event{Seq: seq, Day: d, Kind: chart.Waive, Amount: n}
}

func off(seq uint32, d date.Day) story.Event {
	return story.Event{Seq: seq, Day: d, Kind: chart.Off}
}

// wantTake holds what Take answers, and that one with an error changes nothing.
func wantTake(t *testing.T, l *loan.Loan, e story.Event, today date.Day, want api.Errno) {
	t.Helper()
	was, events := l.Bytes(), l.Events()
	wantErr(t, e, l.Take(e, today), want, l.ID())
	if want == api.OK {
		events = append(events, loan.Past{Event: e})
	} else if !bytes.Equal(l.Bytes(), was) {
		t.Fatalf("%v was refused, and changed something", e)
	}
	if !slices.Equal(l.Events(), events) {
		t.Fatalf("%v, want %v", l.Events(), events)
	}
}

func wantReverse(t *testing.T, l *loan.Loan, seq uint32, today date.Day, want api.Errno) {
	t.Helper()
	was, events := l.Bytes(), l.Events()
	wantErr(t, seq, l.Reverse(seq, today), want, l.ID())
	if want != api.OK && !bytes.Equal(l.Bytes(), was) {
		t.Fatalf("Reverse(%d) was refused, and changed something", seq)
	}
	for k, x := range l.Events() {
		gone := events[k].Gone || want == api.OK && x.Event.Seq == seq
		if x.Event != events[k].Event || x.Gone != gone {
			t.Fatalf("Reverse(%d): %v of %v", seq, x, events[k])
		}
	}
}

// P18.1: New.

func TestNew(t *testing.T) {
	for _, n := range ids {
		for _, s := range []string{plain, "only 1200.00 0 thirty 480 0001-01-01 0.00 0"} {
			x := read(t, s)
			l := made(t, n, x)
			wantLike(t, l, newModel(t, n, x, nil))
			if l.Through() != x.Start-1 || l.State().Owed.Principal != 120000 || len(l.Entries()) != 1 || len(l.Events()) != 0 {
				t.Fatal(l.Through(), l.State(), l.Entries(), l.Events())
			}
		}
	}
}

func TestNewOfWhatIsntRight(t *testing.T) {
	x := read(t, plain)
	months, start := x, x
	months.Months = 0
	start.Start = terms.MaxStart + 1
	for _, n := range ids {
		for _, y := range []terms.Terms{{}, months, start} {
			l, err := loan.New(n, y, nil)
			if l != nil {
				t.Fatal(y)
			}
			wantErr(t, y, err, api.ErrArg, n)
		}
		for _, h := range []due.Holy{{5, 5}, {6, 5}, {-1}, {api.MaxDay + 1}, make(due.Holy, api.MaxHoly+1)} {
			l, err := loan.New(n, x, h)
			if l != nil {
				t.Fatal(h)
			}
			wantErr(t, h, err, api.ErrArg, n)
		}
	}
}

func TestHolidaysMoveWhatIsDue(t *testing.T) {
	x := read(t, plain)
	first := x.Start + 29 // 2024-02-29, a Thursday
	h := due.Holy{first, first + 1}
	l := made(t, id, x, h...)
	h[0], h[1] = 0, 1 // not kept
	if l.Late(first+4) != 0 || l.Late(first+5) != 1 || made(t, id, x).Late(first+5) != 5 {
		t.Fatal(l.Late(first+4), l.Late(first+5))
	}
}

// P18.1: Take.

func TestTakeTells(t *testing.T) {
	l, d := ran(t, 2)
	wantTake(t, l, pay(1, d+1, 60019), d+2, api.OK)
	if st := l.State(); st.Owed != (split.Owed{Interest: 10, Principal: 60000}) || st.Cash != 60019 {
		t.Fatal(st)
	}
	wantTake(t, l, fee(7, d+2, 100), d+2, api.OK) // of the day behind Through, too
	wantTake(t, l, waive(5, d+2, 30), d+2, api.OK)
	if st := l.State(); st.Owed.Fees != 100 { // by their Seq the waiver comes ahead of the fee
		t.Fatal(st)
	}
	wantTake(t, l, waive(0, d, 30), d+2, api.OK)
	wantTake(t, l, waive(math.MaxUint32, d+2, 30), d+2, api.OK)
	if st := l.State(); st.Owed.Fees != 70 {
		t.Fatal(st)
	}
}

func TestTakeOfWhatIsntRight(t *testing.T) {
	l, d := ran(t, 3)
	wantTake(t, l, pay(1, d, 5), d+3, api.OK)
	for _, e := range []story.Event{
		{}, pay(2, d, 0), pay(2, d, -5), pay(2, d, api.MaxMoney+1), fee(2, d, 0), waive(2, d, 0), pay(2, -1, 5), pay(2, api.MaxDay+1, 5),
		{Seq: 2, Day: d, Kind: chart.Off, Amount: 1}, {Seq: 2, Day: d, Kind: chart.Late, Amount: 5}, {Seq: 2, Day: d, Kind: 8, Amount: 5},
		pay(1, d, 0), pay(1, d-1, 0), // of a Seq that there is, or on a day that isn't open
	} {
		wantTake(t, l, e, d+3, api.ErrArg)
	}
	wantTake(t, l, pay(2, d, 1), d+3, api.OK)
	wantTake(t, l, pay(3, d, api.MaxMoney), d+3, api.OK)
}

func TestTakeOfASeqTwice(t *testing.T) {
	l, d := ran(t, 3)
	wantTake(t, l, pay(9, d, 5), d+3, api.OK)
	wantTake(t, l, fee(0, d, 5), d+3, api.OK)
	for _, e := range []story.Event{pay(9, d, 5), fee(9, d+1, 6), off(9, d), pay(0, d, 5), pay(9, d-1, 5), pay(9, d+4, 5)} {
		wantTake(t, l, e, d+3, api.ErrTwice)
	}
	wantReverse(t, l, 9, d+3, api.OK)
	wantTake(t, l, pay(9, d, 5), d+3, api.ErrTwice) // gone, too
	wantTake(t, l, pay(8, d, 5), d+3, api.OK)
}

func TestTakeOfTooMany(t *testing.T) {
	l, d := ran(t, 1)
	for k := range api.MaxEvents {
		must(t, l.Take(pay(uint32(k), d, 1), d+1))
	}
	wantReverse(t, l, 77, d+1, api.OK)
	wantTake(t, l, pay(500, d, 1), d+1, api.ErrLimit)    // what is gone is still one of them
	wantTake(t, l, pay(500, d+2, 1), d+1, api.ErrLimit)  // on a day that isn't open
	wantTake(t, l, pay(499, d, 1), d+1, api.ErrTwice)    // of a Seq that there is
	wantTake(t, l, pay(500, d, -1), d+1, api.ErrArg)     // not Right
	wantTake(t, l, off(1000000, d+1), d+1, api.ErrLimit) // of another kind
	if st := l.State(); st.Cash != 499 || len(l.Events()) != api.MaxEvents {
		t.Fatal(st)
	}
}

// onEachDay asks a fresh loan, run through so many days, for each of the days and todays whether its window is open.
func onEachDay(t *testing.T, days int, ask func(l *loan.Loan, d, today date.Day, open bool)) {
	t.Helper()
	l, start := ran(t, days)
	for n := -2; n <= days+3; n++ {
		for m := -2; m <= days+35; m++ {
			open := n >= 0 && n <= m && n <= days && m-n < 30
			ask(l.Copy(), start+date.Day(n), start+date.Day(m), open)
		}
	}
}

func TestTakeInItsWindow(t *testing.T) {
	for _, days := range []int{0, 1, 2, 40} {
		onEachDay(t, days, func(l *loan.Loan, d, today date.Day, open bool) {
			want := api.ErrWindow
			if open {
				want = api.OK
			}
			wantTake(t, l, fee(1, d, 5), today, want)
		})
	}
}

func TestTodayMayBeAny(t *testing.T) {
	l, d := ran(t, 5)
	first := made(t, id, read(t, "only 1200.00 0 thirty 480 0001-01-01 0.00 0"))
	must(t, first.Take(pay(1, 0, 5), 0), first.Take(pay(2, 0, 5), 29))
	must(t, l.Take(pay(1, d, 5), d))
	for _, today := range []date.Day{math.MinInt32, math.MinInt32 + 1, -1, api.MaxDay, api.MaxDay + 1, math.MaxInt32} {
		wantTake(t, l, pay(3, d, 5), today, api.ErrWindow)
		wantTake(t, first, pay(3, 0, 5), today, api.ErrWindow)
		wantReverse(t, l, 1, today, api.ErrWindow)
		wantReverse(t, first, 1, today, api.ErrWindow)
		wantTake(t, l, pay(3, api.MaxDay, 5), today, api.ErrWindow)
		if n := l.Late(today); n != max(int(today)-int(d)-29, 0) {
			t.Fatal(today, n)
		}
	}
	wantTake(t, first, pay(3, 0, 5), 30, api.ErrWindow)
}

func TestTakeOfAClosedOne(t *testing.T) {
	l, d := ran(t, 2)
	wantTake(t, l, pay(1, d+2, 120039), d+2, api.OK)
	for _, e := range []story.Event{pay(2, d+2, 5), fee(2, d, 5), waive(2, d+1, 5), off(2, d)} {
		wantTake(t, l, e, d+2, api.ErrClosed)
	}
	wantTake(t, l, pay(2, d+3, 5), d+3, api.ErrWindow)
	wantTake(t, l, pay(1, d, 5), d+2, api.ErrTwice)
	// Reversed, it is Active again.
	wantReverse(t, l, 1, d+2, api.OK)
	wantTake(t, l, pay(2, d+2, 5), d+2, api.OK)
}

func TestTakeOfALostOne(t *testing.T) {
	l, d := ran(t, 2)
	wantTake(t, l, off(1, d+1), d+2, api.OK)
	for _, e := range []story.Event{fee(2, d, 5), waive(2, d+1, 5), off(2, d), off(2, d+2)} {
		wantTake(t, l, e, d+2, api.ErrState)
	}
	wantTake(t, l, fee(2, d+3, 5), d+3, api.ErrWindow)
	wantTake(t, l, pay(2, d+2, 5), d+2, api.OK)
	wantTake(t, l, pay(3, d, 7), d+2, api.OK) // ahead of the Off
	if st := l.State(); st.Recovered != 5 || st.Paid != 7 || st.Status != story.Lost {
		t.Fatal(st)
	}
	// Paid off ahead of the Off, it wasn't lost.
	wantTake(t, l, pay(4, d, 120000), d+2, api.OK)
	if st := l.State(); st.Status != story.Closed {
		t.Fatal(st)
	}
	wantTake(t, l, pay(5, d, 7), d+2, api.ErrClosed)
}

// P18.1: Reverse.

func TestReverse(t *testing.T) {
	l, d := ran(t, 2)
	before := l.State()
	wantTake(t, l, pay(1, d+1, 60019), d+2, api.OK)
	wantTake(t, l, pay(2, d+2, 5), d+2, api.OK)
	wantReverse(t, l, 3, d+2, api.ErrNone)
	wantReverse(t, l, 1, d+2, api.OK)
	wantReverse(t, l, 1, d+2, api.ErrState)
	wantReverse(t, l, 2, d+2, api.OK)
	if l.State() != before || len(l.Entries()) != 3 {
		t.Fatal(l.State(), before)
	}
}

func TestReverseInItsOrder(t *testing.T) {
	l, d := ran(t, 2)
	wantTake(t, l, pay(1, d, 5), d+2, api.OK)
	wantTake(t, l, fee(2, d, 5), d+2, api.OK)
	wantTake(t, l, waive(3, d, 5), d+2, api.OK)
	wantTake(t, l, pay(5, d, 5), d+2, api.OK)
	wantTake(t, l, off(4, d), d+2, api.OK)
	wantReverse(t, l, 5, d+2, api.OK)
	for _, today := range []date.Day{d - 1, d, d + 29, d + 30} { // whether or not the day is open
		wantReverse(t, l, 6, today, api.ErrNone)
		wantReverse(t, l, 5, today, api.ErrState)
		for seq := range uint32(3) {
			wantReverse(t, l, 2+seq, today, api.ErrArg)
		}
	}
	wantReverse(t, l, 1, d-1, api.ErrWindow)
	wantReverse(t, l, 1, d+30, api.ErrWindow)
	wantReverse(t, l, 1, d+29, api.OK) // of a lost one, too
}

func TestReverseInItsWindow(t *testing.T) {
	onEachDay(t, 40, func(l *loan.Loan, d, today date.Day, open bool) {
		if d < l.Terms().Start || d > l.Through()+1 {
			return // it was never taken
		}
		must(t, l.Take(pay(1, d, 5), d))
		want := api.ErrWindow
		if open {
			want = api.OK
		}
		wantReverse(t, l, 1, today, want)
	})
}

func TestReverseOfWhatWasNeverOpen(t *testing.T) {
	// By Parse there may be events that Take wouldn't have taken.
	m := newModel(t, id, read(t, plain), nil)
	d := m.x.Start
	m.past = []loan.Past{{Event: pay(1, d-1, 5)}, {Event: pay(2, d+3, 5)}, {Event: pay(3, d+2, 5)}, {Event: pay(4, d+2, 120039)}}
	m.through = d + 1
	l, err := loan.Parse(m.bytes(), nil)
	must(t, err)
	wantReverse(t, l, 1, d+2, api.ErrWindow)
	wantReverse(t, l, 2, d+3, api.ErrWindow)
	wantReverse(t, l, 3, d+2, api.OK) // of a closed one
	wantLike(t, l, &model{id: m.id, x: m.x, s: m.s, past: l.Events(), through: m.through})
}

// P18.2: Run, Late.

func TestRun(t *testing.T) {
	l, d := ran(t, 0)
	for k := range date.Day(50) {
		for _, wrong := range []date.Day{d + k - 1, d + k + 1, d + k - 2, d + k + 7, 0, -1, math.MinInt32, math.MaxInt32, api.MaxDay} {
			wantErr(t, wrong, l.Run(wrong), api.ErrArg, id)
			if l.Through() != d+k-1 {
				t.Fatal(l.Through())
			}
		}
		must(t, l.Run(d+k))
		if l.Through() != d+k {
			t.Fatal(l.Through())
		}
		if n := len(l.Entries()); n != int(k)+2+int(k)/39 { // on the day 39 the first fee is charged, 10 days behind 2024-02-29
			t.Fatal(k, n)
		}
	}
}

func TestRunToTheEnd(t *testing.T) {
	x := read(t, plain)
	x.Start = terms.MaxStart
	l := made(t, id, x)
	must(t, l.Take(off(1, x.Start), x.Start))
	run(t, l, 40001)
	last := date.Day(terms.MaxStart + 40000)
	if l.Through() != last {
		t.Fatal(l.Through())
	}
	for d, want := range map[date.Day]api.Errno{last: api.ErrArg, last + 1: api.ErrWindow, last + 2: api.ErrArg, api.MaxDay: api.ErrArg} {
		wantErr(t, d, l.Run(d), want, id)
	}
	wantTake(t, l, pay(2, last+1, 5), last+1, api.OK)
	wantTake(t, l, pay(3, last+2, 5), last+2, api.ErrWindow)
	if st := l.State(); st.Recovered != 5 || l.Through() != last {
		t.Fatal(st)
	}
	back, err := loan.Parse(l.Bytes(), nil)
	must(t, err)
	if back.Through() != last || back.State() != l.State() {
		t.Fatal(back.Through())
	}
}

func TestLate(t *testing.T) {
	l, d := ran(t, 60)
	first, second := d+29, d+61 // 2024-02-29, and, as 2024-03-31 is a Sunday, 2024-04-01
	for today, want := range map[date.Day]int{first - 1: 0, first: 0, first + 1: 1, first + 60: 60, second: 32} {
		if n := l.Late(today); n != want {
			t.Fatal(today-d, n, want)
		}
	}
	must(t, l.Take(pay(1, d+60, 10328+1500), d+60)) // and the fee for what is late
	for today, want := range map[date.Day]int{first + 1: 0, second: 0, second + 1: 1, second + 59: 59} {
		if n := l.Late(today); n != want {
			t.Fatal(today-d, n, want)
		}
	}
	for _, e := range []story.Event{pay(2, d+60, 1000000), off(2, d+60)} {
		ended := l.Copy()
		must(t, ended.Take(e, d+60))
		if ended.State().Status == story.Active || ended.Late(second+59) != 0 {
			t.Fatal(ended.State(), ended.Late(second+59))
		}
	}
	must(t, l.Reverse(1, d+60))
	if n := l.Late(second); n != 32 {
		t.Fatal(n)
	}
}

// P18.3: Copy; and what is answered is new.

func TestACopyIsAnother(t *testing.T) {
	l, d := ran(t, 3)
	must(t, l.Take(pay(1, d, 5), d+3), l.Take(pay(2, d, 7), d+3))
	c := l.Copy()
	was := l.Bytes()
	must(t, c.Reverse(1, d+3), c.Take(pay(3, d, 9), d+3), c.Run(d+3), c.Reverse(3, d+3))
	if !bytes.Equal(l.Bytes(), was) || l.State().Cash != 12 || l.Through() != d+2 {
		t.Fatal("what was done to a copy is seen")
	}
	was = c.Bytes()
	must(t, l.Take(fee(4, d, 9), d+3), l.Reverse(2, d+3))
	if !bytes.Equal(c.Bytes(), was) || c.State().Cash != 7 || c.State().Owed.Fees != 0 {
		t.Fatal("a copy sees what is done")
	}
}

func TestAnswersAreNew(t *testing.T) {
	l, d := ran(t, 3)
	must(t, l.Take(pay(1, d, 5), d+3), l.Take(pay(2, d, 7), d+3), l.Take(pay(3, d, 9), d+3))
	b := ledger.New()
	must(t, l.Sync(b))
	was, lines := l.Bytes(), b.Bytes()
	events := l.Events()
	clear(events[:cap(events)])
	entries := l.Entries()
	for _, e := range entries {
		clear(e.Legs[:cap(e.Legs)])
	}
	clear(entries[:cap(entries)])
	p := l.Bytes()
	back, err := loan.Parse(p, nil)
	must(t, err)
	clear(p[:cap(p)])
	if !bytes.Equal(l.Bytes(), was) || !bytes.Equal(back.Bytes(), was) || !bytes.Equal(b.Bytes(), lines) {
		t.Fatal("an answer is shared")
	}
	must(t, l.Sync(b))
	if !bytes.Equal(b.Bytes(), lines) {
		t.Fatal("an answer is shared")
	}
}

func TestOfNoLoan(t *testing.T) {
	var l *loan.Loan
	b := ledger.New()
	for _, err := range []error{l.Take(story.Event{}, 0), l.Take(pay(1, 5, 5), 5), l.Reverse(1, 0), l.Run(0), l.Run(-1), l.Sync(b), l.Sync(nil)} {
		if api.Code(err) != api.ErrNone {
			t.Fatal(api.Code(err))
		}
	}
	if l.ID() != 0 || l.Through() != 0 || l.State() != (story.State{}) || len(l.Entries()) != 0 || len(l.Events()) != 0 || l.Terms() != (terms.Terms{}) || l.Late(math.MaxInt32) != 0 || l.Copy() != nil || len(l.Bytes()) != 0 || b.Len() != 0 {
		t.Fatal("something is told of no loan")
	}
}
