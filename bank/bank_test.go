package bank_test

import (
	"bytes"
	"math"
	"math/rand"
	"reflect"
	"slices"
	"testing"

	"arrears/api"
	"arrears/bank"
	"arrears/chart"
	"arrears/coin"
	"arrears/date"
	"arrears/due"
	"arrears/late"
	"arrears/ledger"
	"arrears/split"
	"arrears/story"
	"arrears/terms"
)

// plain is what the chapters' terms are, by Actual: two days' interest is 39.
const plain = "level 1200.00 60000 actual 12 2024-01-31 15.00 10"

// start is the plain terms' Start.
const start date.Day = 738915

var someIDs = []uint32{0, 1, 7, 65536, math.MaxUint32}

// read is the plain terms, of a loan that begins on that day.
func read(t *testing.T, d date.Day) terms.Terms {
	t.Helper()
	x, err := terms.Read(plain)
	must(t, err)
	x.Start = d
	return x
}

func made(t *testing.T, today date.Day, h ...date.Day) *bank.Bank {
	t.Helper()
	b, err := bank.New(today, h)
	must(t, err)
	return b
}

// boarded is a bank on the plain terms' Start, with loans of them.
func boarded(t *testing.T, ids ...uint32) *bank.Bank {
	t.Helper()
	b := made(t, start)
	for _, id := range ids {
		must(t, b.Board(id, read(t, start)))
	}
	return b
}

// closes steps until so many days more are closed.
func closes(t *testing.T, b *bank.Bank, days int) {
	t.Helper()
	for days > 0 {
		_, done, err := b.Step()
		must(t, err)
		if done {
			days--
		}
	}
}

func pay(seq uint32, d date.Day, n coin.Coin) story.Event {
	return story.Event{Seq: seq, Day: d, Kind: chart.Pay, Amount: n}
}

func fee(seq uint32, d date.Day, n coin.Coin) story.Event {
	return story.Event{Seq: seq, Day: d, Kind: chart.Fee, Amount: n}
}

func off(seq uint32, d date.Day) story.Event {
	return story.Event{Seq: seq, Day: d, Kind: chart.Off}
}

// wantRefused holds that the call answers that error of the loan, and changes nothing.
func wantRefused(t *testing.T, b *bank.Bank, what any, want api.Errno, id uint32, call func() error) {
	t.Helper()
	was, left := b.Bytes(), b.Left()
	wantErr(t, what, call(), want, id)
	if !bytes.Equal(b.Bytes(), was) || b.Left() != left {
		t.Fatalf("%v was refused, and changed something", what)
	}
}

// wantStep holds what a Step answers.
func wantStep(t *testing.T, b *bank.Bank, id uint32, done bool) {
	t.Helper()
	if n, d, err := b.Step(); n != id || d != done || err != nil {
		t.Fatalf("step: %d, %v, error %d, want %d, %v", n, d, api.Code(err), id, done)
	}
}

// P19.1: New.

func TestNew(t *testing.T) {
	for _, today := range []date.Day{0, 1, start, terms.MaxStart - 1, terms.MaxStart} {
		b := made(t, today)
		wantLike(t, b, newModel(today, nil))
		if b.Today() != today || b.Left() != 0 || len(b.IDs()) != 0 || b.Ledger().Len() != 0 {
			t.Fatal(today)
		}
	}
	h := make(due.Holy, api.MaxHoly)
	for k := range h {
		h[k] = api.MaxDay - api.MaxHoly + 1 + date.Day(k)
	}
	wantLike(t, made(t, start, h...), newModel(start, h))
}

func TestNewOfWhatIsntRight(t *testing.T) {
	for _, today := range []date.Day{-1, terms.MaxStart + 1, api.MaxDay, math.MinInt32, math.MaxInt32} {
		if b, err := bank.New(today, nil); b != nil || api.Code(err) != api.ErrArg {
			t.Fatal(today, api.Code(err))
		}
	}
	for _, h := range []due.Holy{{5, 5}, {6, 5}, {-1}, {api.MaxDay + 1}, make(due.Holy, api.MaxHoly+1)} {
		if b, err := bank.New(start, h); b != nil || api.Code(err) != api.ErrArg {
			t.Fatal(h, api.Code(err))
		}
	}
}

func TestHolidaysAreTheLoans(t *testing.T) {
	h := due.Holy{start + 29, start + 30} // 2024-02-29 and -03-01, a Thursday and a Friday
	b := made(t, start, h...)
	h[0], h[1] = 0, 1 // not kept
	must(t, b.Board(3, read(t, start)))
	l := b.Loan(3)
	if l.Late(start+33) != 0 || l.Late(start+34) != 1 {
		t.Fatal(l.Late(start+33), l.Late(start+34))
	}
}

// P19.1: Board.

func TestBoard(t *testing.T) {
	b := made(t, start)
	for k, id := range someIDs {
		must(t, b.Board(id, read(t, start)))
		l, g := b.Loan(id), b.Ledger()
		if l.ID() != id || l.Terms() != read(t, start) || l.Through() != start-1 || l.State().Owed != (split.Owed{Principal: 120000}) {
			t.Fatal(id, l.State())
		}
		// Its entry is in the ledger.
		x, _ := g.Line(k)
		if g.Len() != k+1 || x.Entry.Key != (chart.Key{Loan: id, Day: start, Kind: chart.Board}) || g.Balance(id, chart.Principal) != 120000 || g.Control(chart.Cash) != coin.Coin(-120000*(k+1)) {
			t.Fatal(g.Len(), x)
		}
		if b.Left() != k+1 {
			t.Fatal(b.Left())
		}
	}
	wantKept(t, b)
}

func TestBoardsErrorsInTheirOrder(t *testing.T) {
	b := boarded(t, 0, 7, math.MaxUint32)
	wrong, early, lateOne := terms.Terms{}, read(t, start-1), read(t, start+1)
	both := lateOne
	both.Months = 0
	for _, id := range []uint32{0, 7, math.MaxUint32} {
		for _, x := range []terms.Terms{read(t, start), wrong, early, lateOne, both} {
			wantRefused(t, b, x, api.ErrTwice, id, func() error { return b.Board(id, x) })
		}
	}
	for _, id := range []uint32{1, 8, math.MaxUint32 - 1} {
		for _, x := range []terms.Terms{wrong, both, read(t, -1), read(t, terms.MaxStart+1)} {
			wantRefused(t, b, x, api.ErrArg, id, func() error { return b.Board(id, x) })
		}
		for _, x := range []terms.Terms{early, lateOne, read(t, 0), read(t, terms.MaxStart)} {
			wantRefused(t, b, x, api.ErrWindow, id, func() error { return b.Board(id, x) })
		}
	}
	closes(t, b, 1)
	wantRefused(t, b, start, api.ErrWindow, 1, func() error { return b.Board(1, read(t, start)) })
	must(t, b.Board(1, read(t, start+1)))
}

func TestBoardOfTooMany(t *testing.T) {
	b := made(t, start)
	x := read(t, start)
	for k := range uint32(api.MaxLoans) {
		must(t, b.Board((k*40503)%api.MaxLoans*3, x)) // in no order
	}
	for _, y := range []terms.Terms{x, {}, read(t, start+1)} {
		wantErr(t, y, b.Board(1, y), api.ErrLimit, 1)
		wantErr(t, y, b.Board(3, y), api.ErrTwice, 3)
	}
	ids := b.IDs()
	if len(ids) != api.MaxLoans || b.Left() != api.MaxLoans || b.Loan(1) != nil || b.Ledger().Len() != api.MaxLoans {
		t.Fatal(len(ids), b.Left())
	}
	for k, id := range ids {
		if id != uint32(k)*3 {
			t.Fatal(k, id)
		}
		wantStep(t, b, id, false)
	}
	wantStep(t, b, 0, true)
	back, err := bank.Parse(b.Bytes())
	must(t, err)
	if !bank.Same(b, back) || back.Left() != api.MaxLoans {
		t.Fatal(back.Left())
	}
	wantErr(t, x, back.Board(1, read(t, start+1)), api.ErrLimit, 1)
}

func TestBoardOnTheFirstAndTheLastDay(t *testing.T) {
	for _, today := range []date.Day{0, terms.MaxStart} {
		b := made(t, today)
		must(t, b.Board(7, read(t, today)))
		wantStep(t, b, 7, false)
		if b.Loan(7).Through() != today || b.Left() != 0 {
			t.Fatal(today, b.Left())
		}
		wantKept(t, b)
	}
}

// P19.1: Take and Reverse.

func TestTakeAndReverse(t *testing.T) {
	b := boarded(t, 3, 7)
	closes(t, b, 2)
	d := b.Today()
	must(t, b.Take(3, pay(1, d-1, 60019)))
	g := b.Ledger()
	if g.Len() != 6+3 || g.Balance(3, chart.Cash) != -59981 || g.Balance(3, chart.Income) != -29 || g.Balance(7, chart.Income) != -39 || g.Control(chart.Income) != -68 {
		t.Fatal(g.Len(), g.Balance(3, chart.Income))
	}
	wantKept(t, b)
	must(t, b.Reverse(3, 1))
	g = b.Ledger()
	if g.Len() != 9+3 || g.Balance(3, chart.Cash) != -120000 || g.Balance(3, chart.Income) != -39 {
		t.Fatal(g.Len(), g.Balance(3, chart.Income))
	}
	wantKept(t, b)
}

func TestTakeAndReverseOfNoLoan(t *testing.T) {
	b := boarded(t, 3)
	for _, id := range someIDs {
		for _, e := range []story.Event{{}, pay(1, start, 5), pay(1, start-1, 5)} {
			wantRefused(t, b, e, api.ErrNone, id, func() error { return b.Take(id, e) })
		}
		wantRefused(t, b, id, api.ErrNone, id, func() error { return b.Reverse(id, 1) })
	}
}

func TestTakesErrorsAreTheLoans(t *testing.T) {
	b := boarded(t, 3, 7, 9)
	closes(t, b, 40)
	d := b.Today()
	must(t, b.Take(3, pay(1, d, 5)), b.Take(3, fee(2, d, 5)), b.Take(7, pay(1, d, 1000000)), b.Take(9, off(1, d)))
	for _, c := range []struct {
		id   uint32
		e    story.Event
		want api.Errno
	}{
		{3, pay(4, d, 0), api.ErrArg},
		{3, pay(1, d, 5), api.ErrTwice},
		{3, pay(4, d+1, 5), api.ErrWindow}, // today is the bank's
		{3, pay(4, d-30, 5), api.ErrWindow},
		{3, pay(4, start-1, 5), api.ErrWindow},
		{7, pay(4, d, 5), api.ErrClosed},
		{7, fee(4, d, 5), api.ErrClosed},
		{9, fee(4, d, 5), api.ErrState},
	} {
		wantRefused(t, b, c.e, c.want, c.id, func() error { return b.Take(c.id, c.e) })
	}
	must(t, b.Take(9, pay(4, d, 5)), b.Take(3, pay(4, d-29, 5)))
	for k := range uint32(api.MaxEvents - 3) {
		must(t, b.Take(3, fee(10+k, d, 1)))
	}
	wantRefused(t, b, "one more", api.ErrLimit, 3, func() error { return b.Take(3, fee(5, d, 1)) })
	wantKept(t, b)
}

func TestReversesErrorsAreTheLoans(t *testing.T) {
	b := boarded(t, 3)
	must(t, b.Take(3, pay(1, start, 5)), b.Take(3, pay(2, start, 5)), b.Take(3, fee(4, start, 5)), b.Reverse(3, 2))
	reverse := func(seq uint32) func() error {
		return func() error { return b.Reverse(3, seq) }
	}
	wantRefused(t, b, 3, api.ErrNone, 3, reverse(3))
	wantRefused(t, b, 2, api.ErrState, 3, reverse(2))
	wantRefused(t, b, 4, api.ErrArg, 3, reverse(4))
	closes(t, b, 29)
	c := b.Copy()
	must(t, c.Reverse(3, 1)) // Window less 1 days behind it
	wantKept(t, c)
	closes(t, b, 1)
	wantRefused(t, b, 1, api.ErrWindow, 3, reverse(1))
}

func TestTakeOfTodayBeforeAndBehindItsStep(t *testing.T) {
	a, b := boarded(t, 3), boarded(t, 3)
	must(t, a.Take(3, pay(1, start, 60000)))
	wantStep(t, a, 3, false)
	wantStep(t, b, 3, false)
	must(t, b.Take(3, pay(1, start, 60000)))
	if !reflect.DeepEqual(a.Ledger().Loan(3), b.Ledger().Loan(3)) || a.Ledger().Len() != 3 || b.Ledger().Len() != 2+1+2 {
		t.Fatal(a.Ledger().Len(), b.Ledger().Len())
	}
	if a.Left() != 0 || b.Left() != 0 {
		t.Fatal(a.Left(), b.Left())
	}
}

// P19.2: Step, Left.

func TestStep(t *testing.T) {
	b := boarded(t, 7, 3)
	for d := start; d < start+5; d++ {
		if b.Today() != d || b.Left() != 2 {
			t.Fatal(b.Today(), b.Left())
		}
		wantStep(t, b, 3, false)
		if b.Left() != 1 || b.Loan(3).Through() != d || b.Loan(7).Through() != d-1 || b.Today() != d {
			t.Fatal(b.Left())
		}
		// It is Synced, and the other one isn't run.
		if g := b.Ledger(); len(g.Loan(3)) != int(d-start)+2 || len(g.Loan(7)) != int(d-start)+1 {
			t.Fatal(g.Loan(3), g.Loan(7))
		}
		wantStep(t, b, 7, false)
		if b.Left() != 0 || b.Today() != d {
			t.Fatal(b.Left())
		}
		n := b.Ledger().Len()
		wantStep(t, b, 0, true)
		if b.Ledger().Len() != n {
			t.Fatal("to close a day adds lines")
		}
	}
	wantKept(t, b)
}

func TestStepOfALoanThatIsBoardedMeanwhile(t *testing.T) {
	b := boarded(t, 5, 8)
	wantStep(t, b, 5, false)
	must(t, b.Board(6, read(t, start)), b.Board(0, read(t, start)), b.Board(math.MaxUint32, read(t, start)))
	if b.Left() != 4 {
		t.Fatal(b.Left())
	}
	for _, id := range []uint32{0, 6, 8} { // the least one, though a greater one was run
		wantStep(t, b, id, false)
	}
	must(t, b.Board(7, read(t, start)))
	wantStep(t, b, 7, false)
	wantStep(t, b, math.MaxUint32, false)
	must(t, b.Board(2, read(t, start)))
	wantStep(t, b, 2, false)
	wantStep(t, b, 0, true)
	for _, id := range []uint32{0, 2, 5, 6, 7, 8, math.MaxUint32} {
		wantStep(t, b, id, false)
	}
	wantStep(t, b, 0, true)
	wantKept(t, b)
}

func TestStepOfEachStatus(t *testing.T) {
	b := boarded(t, 1, 2, 3)
	must(t, b.Take(1, pay(1, start, 120000)), b.Take(2, off(1, start)))
	closes(t, b, 3)
	for _, id := range []uint32{1, 2, 3} { // those that have ended are run, too
		wantStep(t, b, id, false)
		if b.Loan(id).Through() != start+3 {
			t.Fatal(b.Loan(id).Through())
		}
	}
	if g := b.Ledger(); len(g.Loan(1)) != 2 || len(g.Loan(2)) != 2 || len(g.Loan(3)) != 5 {
		t.Fatal(g.Len())
	}
	wantKept(t, b)
}

func TestStepWithoutLoans(t *testing.T) {
	b := made(t, start)
	for k := range date.Day(3) {
		wantStep(t, b, 0, true)
		if b.Today() != start+k+1 {
			t.Fatal(b.Today())
		}
	}
}

func TestStepOnTheLastDay(t *testing.T) {
	b := made(t, terms.MaxStart-1)
	wantStep(t, b, 0, true)
	must(t, b.Board(4, read(t, terms.MaxStart)), b.Board(2, read(t, terms.MaxStart)))
	wantStep(t, b, 2, false)
	wantStep(t, b, 4, false)
	for range 2 {
		was := b.Bytes()
		if id, done, err := b.Step(); id != 0 || done || api.Code(err) != api.ErrWindow {
			t.Fatal(id, done, api.Code(err))
		}
		if !bytes.Equal(b.Bytes(), was) || b.Today() != terms.MaxStart || b.Left() != 0 {
			t.Fatal("a step was refused, and changed something")
		}
	}
	must(t, b.Take(2, pay(1, terms.MaxStart, 5)), b.Board(3, read(t, terms.MaxStart)))
	wantStep(t, b, 3, false)
	wantKept(t, b)
}

// P19.3: what is told.

func TestQuoteAndBucket(t *testing.T) {
	b := boarded(t, 3, 7)
	buckets := map[int]byte{}
	for k := range 130 {
		got, err := b.Bucket(7)
		must(t, err)
		buckets[k] = got
		if k == 20 {
			must(t, b.Take(3, pay(1, b.Today(), 120000)))
		}
		q, err := b.Quote(3)
		must(t, err)
		if o := b.Loan(3).State().Owed; q != o.Fees+o.Interest+o.Principal || k == 2 && q != 120039 {
			t.Fatal(k, q, o)
		}
		closes(t, b, 1)
	}
	// The first sum is due on 2024-02-29, 29 days behind Start.
	for k, want := range map[int]byte{0: late.Current, 29: late.Current, 30: late.Grace, 58: late.Grace, 59: late.Thirty, 88: late.Thirty, 89: late.Sixty, 118: late.Sixty, 119: late.Ninety, 129: late.Ninety} {
		if buckets[k] != want {
			t.Fatal(k, buckets[k], want)
		}
	}
	must(t, b.Take(7, pay(1, b.Today(), 10328)), b.Take(3, off(9, b.Today())))
	for _, id := range []uint32{3, 7} {
		got, err := b.Bucket(id)
		must(t, err)
		if want := late.Bucket(b.Loan(id).Late(b.Today())); got != want || id == 3 && got != late.Current {
			t.Fatal(id, got, want)
		}
	}
	if q, err := b.Quote(3); q != 0 || err != nil {
		t.Fatal(q, err)
	}
}

func TestQuoteAndBucketOfNoLoan(t *testing.T) {
	b := boarded(t, 3)
	for _, id := range someIDs {
		q, err := b.Quote(id)
		wantErr(t, id, err, api.ErrNone, id)
		k, err := b.Bucket(id)
		wantErr(t, id, err, api.ErrNone, id)
		if q != 0 || k != 0 || b.Loan(id) != nil {
			t.Fatal(id, q, k)
		}
	}
}

func TestACopyIsAnother(t *testing.T) {
	b := boarded(t, 3, 7, 9)
	must(t, b.Take(3, pay(1, start, 5)))
	wantStep(t, b, 3, false)
	c := b.Copy()
	if !bank.Same(b, c) || c.Left() != 2 {
		t.Fatal(c.Left())
	}
	was := b.Bytes()
	must(t, c.Take(3, pay(2, start, 7)), c.Reverse(3, 1), c.Board(8, read(t, start)), c.Board(1, read(t, start)))
	wantStep(t, c, 1, false)
	closes(t, c, 2)
	if !bytes.Equal(b.Bytes(), was) || b.Left() != 2 || b.Today() != start || b.Loan(3).State().Cash != 5 || len(b.IDs()) != 3 {
		t.Fatal("what was done to a copy is seen")
	}
	was = c.Bytes()
	must(t, b.Board(2, read(t, start)), b.Take(7, fee(1, start, 9)))
	wantStep(t, b, 2, false)
	wantStep(t, b, 7, false)
	if !bytes.Equal(c.Bytes(), was) || c.Left() != 5 {
		t.Fatal("a copy sees what is done")
	}
	wantStep(t, c, 1, false)
	wantStep(t, b, 9, false)
	wantKept(t, b)
	wantKept(t, c)
}

func TestAnswersAreNew(t *testing.T) {
	b := boarded(t, 3, 7)
	must(t, b.Take(3, pay(1, start, 5)))
	was := b.Bytes()
	l, g, ids, p := b.Loan(3), b.Ledger(), b.IDs(), b.Bytes()
	must(t, l.Take(pay(2, start, 5), start), l.Reverse(1, start), l.Run(start), l.Sync(g))
	must(t, g.Reverse(chart.Key{Loan: 7, Day: start, Kind: chart.Board}))
	clear(ids[:cap(ids)])
	back, err := bank.Parse(p)
	must(t, err)
	clear(p[:cap(p)])
	if !bytes.Equal(b.Bytes(), was) || !bytes.Equal(back.Bytes(), was) || b.Ledger().Len() != 3 || len(b.Loan(3).Events()) != 1 {
		t.Fatal("an answer is shared")
	}
	wantStep(t, b, 3, false)
	wantStep(t, b, 7, false)
	wantStep(t, b, 0, true)
	ids = b.IDs()
	clear(ids[:cap(ids)])
	wantStep(t, b, 3, false)
}

func TestSame(t *testing.T) {
	b := boarded(t, 3, 7)
	closes(t, b, 1)
	others := []*bank.Bank{nil, made(t, start), made(t, start+1), made(t, start, 5), boarded(t, 3), boarded(t, 3, 7)}
	one := func(change func(c *bank.Bank) error) {
		c := b.Copy()
		must(t, change(c))
		others = append(others, c)
	}
	one(func(c *bank.Bank) error { return c.Take(3, pay(1, start, 5)) })
	one(func(c *bank.Bank) error { return c.Take(7, pay(1, start, 5)) })
	one(func(c *bank.Bank) error { _, _, err := c.Step(); return err })
	one(func(c *bank.Bank) error { return c.Board(4, read(t, start+1)) })
	all := append(others, b)
	for i, x := range all {
		for k, y := range all {
			if bank.Same(x, y) != (i == k) || x != nil && !bank.Same(x, x.Copy()) {
				t.Fatal(i, k)
			}
		}
	}
	// The same loans, by another way: the ledgers' lines aren't the same.
	c := b.Copy()
	must(t, c.Take(3, pay(1, start, 60000)), c.Take(7, pay(1, start, 60000)))
	d := b.Copy()
	must(t, d.Take(7, pay(1, start, 60000)), d.Take(3, pay(1, start, 60000)))
	if bank.Same(c, d) || !bytes.Equal(c.Loan(3).Bytes(), d.Loan(3).Bytes()) {
		t.Fatal("the same")
	}
}

func TestOfNoBank(t *testing.T) {
	var b *bank.Bank
	_, done, stepped := b.Step()
	q, quoted := b.Quote(3)
	k, bucketed := b.Bucket(3)
	for _, err := range []error{b.Board(3, terms.Terms{}), b.Board(3, read(t, 0)), b.Take(3, pay(1, start, 5)), b.Take(3, story.Event{}), b.Reverse(3, 1), stepped, quoted, bucketed} {
		if api.Code(err) != api.ErrNone {
			t.Fatal(api.Code(err))
		}
	}
	if done || q != 0 || k != 0 || b.Today() != 0 || b.Left() != 0 || b.Loan(3) != nil || len(b.IDs()) != 0 || b.Ledger() != nil || b.Copy() != nil || len(b.Bytes()) != 0 {
		t.Fatal("something is told of no bank")
	}
	if !bank.Same(nil, nil) || !bank.Same(b, b.Copy()) || bank.Same(nil, made(t, 0)) || bank.Same(made(t, 0), nil) {
		t.Fatal("Same")
	}
}

// P4: however often a day is begun again.

func TestEachDayOnce(t *testing.T) {
	run := func(again bool) *bank.Bank {
		b := boarded(t, 9, 1, 5)
		for k := range 160 {
			if again {
				back, err := bank.Parse(b.Bytes())
				must(t, err)
				b = back
			}
			if k%37 == 5 {
				must(t, b.Take(5, pay(uint32(k), b.Today(), 777)))
			}
			_, _, err := b.Step()
			must(t, err)
		}
		wantKept(t, b)
		return b
	}
	if a, c := run(false), run(true); !bank.Same(a, c) || a.Today() != start+40 || a.Left() != 3 {
		t.Fatal(a.Today()-start, a.Left())
	}
}

// P5: the order in which money arrives says nothing.

func TestTheOrderInWhichMoneyArrives(t *testing.T) {
	g := rand.New(rand.NewSource(5))
	type one struct {
		id uint32
		e  story.Event
	}
	for range 20 {
		prompt, tardy := boarded(t, 3, 7, 9), boarded(t, 3, 7, 9)
		events := []one{}
		for range 25 {
			for range g.Intn(3) {
				x := one{[]uint32{3, 7, 9}[g.Intn(3)], pay(uint32(g.Intn(1000000)), prompt.Today(), 1+coin.Coin(g.Intn(2000)))}
				must(t, prompt.Take(x.id, x.e))
				events = append(events, x)
			}
			closes(t, prompt, 1)
			closes(t, tardy, 1)
		}
		g.Shuffle(len(events), func(i, k int) { events[i], events[k] = events[k], events[i] })
		for _, x := range events {
			must(t, tardy.Take(x.id, x.e))
		}
		for _, id := range prompt.IDs() {
			if prompt.Loan(id).State() != tardy.Loan(id).State() || !reflect.DeepEqual(prompt.Ledger().Loan(id), tardy.Ledger().Loan(id)) {
				t.Fatal(id, prompt.Loan(id).State(), tardy.Loan(id).State())
			}
		}
		for account := range byte(10) {
			if prompt.Ledger().Control(account) != tardy.Ledger().Control(account) {
				t.Fatal(account)
			}
		}
		wantKept(t, tardy)
	}
}

// P6: the ledger is only added to.

func TestTheLedgerIsOnlyAddedTo(t *testing.T) {
	g := rand.New(rand.NewSource(6))
	m := newModel(start, nil)
	b := made(t, start)
	lines := []ledger.Line{}
	for range 300 {
		act(t, g, b, m)
		now := b.Ledger()
		if now.Len() < len(lines) {
			t.Fatal(now.Len(), len(lines))
		}
		for at, want := range lines {
			if x, ok := now.Line(at); !ok || !reflect.DeepEqual(x, want) {
				t.Fatal(at, x, want)
			}
		}
		for at := len(lines); at < now.Len(); at++ {
			x, _ := now.Line(at)
			lines = append(lines, x)
		}
	}
	if len(lines) < 100 || !slices.IsSorted(b.IDs()) {
		t.Fatal(len(lines))
	}
}
