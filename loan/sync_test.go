package loan_test

import (
	"bytes"
	"math"
	"math/rand"
	"reflect"
	"testing"

	"arrears/api"
	"arrears/chart"
	"arrears/coin"
	"arrears/date"
	"arrears/ledger"
	"arrears/loan"
	"arrears/story"
)

const (
	most   = coin.Coin(math.MaxInt64)
	fewest = coin.Coin(math.MinInt64)
)

// entry is one of a key, with accounts and amounts by turns.
func entry(n uint32, d date.Day, kind byte, seq uint32, legs ...coin.Coin) chart.Entry {
	e := chart.Entry{Key: chart.Key{Loan: n, Day: d, Kind: kind, Seq: seq}}
	for k := 0; k < len(legs); k += 2 {
		e.Legs = append(e.Legs, chart.Leg{Account: byte(legs[k]), Amount: legs[k+1]})
	}
	return e
}

// wantLines holds that the lines behind the first n are these: of reversals, the Of stands in its own list.
func wantLines(t *testing.T, b *ledger.Ledger, n int, of []int, want ...chart.Entry) {
	t.Helper()
	if b.Len() != n+len(want) {
		t.Fatalf("%d lines, want %d", b.Len(), n+len(want))
	}
	for k, e := range want {
		if x, _ := b.Line(n + k); !reflect.DeepEqual(x, ledger.Line{Entry: e, Of: of[k]}) {
			t.Fatalf("line %d: %v, want %v of %d", n+k, x, e, of[k])
		}
	}
}

// P18.2: Sync.

func TestSyncAPaymentOfYesterday(t *testing.T) {
	l, d := ran(t, 2)
	b := ledger.New()
	must(t, l.Sync(b))
	wantLines(t, b, 0, []int{0, 0, 0},
		entry(id, d, chart.Board, 0, chart.Cash, -120000, chart.Principal, 120000),
		entry(id, d, chart.Accrue, 0, chart.Interest, 19, chart.Income, -19),
		entry(id, d+1, chart.Accrue, 0, chart.Interest, 20, chart.Income, -20))
	must(t, l.Take(pay(1, d+1, 60019), d+2), l.Sync(b))
	wantLines(t, b, 3, []int{3, 0, 0},
		entry(id, d+1, chart.Accrue, 0, chart.Interest, -20, chart.Income, 20),
		entry(id, d+1, chart.Accrue, 0, chart.Interest, 10, chart.Income, -10),
		entry(id, d+1, chart.Pay, 1, chart.Cash, 60019, chart.Principal, -60000, chart.Interest, -19, chart.Fees, 0, chart.Suspense, 0))
	must(t, l.Sync(b))
	if b.Len() != 6 { // nothing is left to do
		t.Fatal(b.Len())
	}
	must(t, l.Reverse(1, d+2), l.Sync(b))
	wantLines(t, b, 6, []int{5, 6, 0},
		entry(id, d+1, chart.Accrue, 0, chart.Interest, -10, chart.Income, 10),
		entry(id, d+1, chart.Pay, 1, chart.Cash, -60019, chart.Principal, 60000, chart.Interest, 19, chart.Fees, 0, chart.Suspense, 0),
		entry(id, d+1, chart.Accrue, 0, chart.Interest, 20, chart.Income, -20))
}

func TestSyncReversesAllAheadOfPosts(t *testing.T) {
	l, d := ran(t, 9)
	b := ledger.New()
	must(t, l.Sync(b))
	must(t, l.Take(pay(7, d, 60000), d+9), l.Take(fee(3, d+4, 5), d+9), l.Sync(b))
	if b.Len() != 10+9+11 {
		t.Fatal(b.Len())
	}
	var last chart.Key
	for at := 10; at < b.Len(); at++ {
		x, _ := b.Line(at)
		if (x.Of > 0) != (at < 19) || at != 10 && at != 19 && !last.Less(x.Entry.Key) {
			t.Fatal(at, x, last)
		}
		last = x.Entry.Key
	}
}

func TestSyncIsOfItsOwnEntriesAlone(t *testing.T) {
	l, d := ran(t, 1)
	others := []chart.Entry{
		entry(id-1, d, chart.Board, 0, chart.Cash, 5, chart.Principal, -5),
		entry(id+1, d, chart.Board, 0, chart.Cash, 5, chart.Principal, -5),
	}
	b := posted(t, others...)
	must(t, l.Sync(b))
	if !reflect.DeepEqual(b.Loan(id-1), others[:1]) || !reflect.DeepEqual(b.Loan(id+1), others[1:]) || len(b.Loan(id)) != 2 || b.Len() != 4 {
		t.Fatal(b.Loan(id-1), b.Loan(id+1), b.Len())
	}
}

func TestSyncWithNoLedger(t *testing.T) {
	for _, n := range ids {
		wantErr(t, n, made(t, n, read(t, plain)).Sync(nil), api.ErrArg, n)
	}
}

// P18.4: whatever was there.

func TestSyncWhateverWasThere(t *testing.T) {
	l, d := ran(t, 2)
	for _, was := range [][]chart.Entry{
		{entry(id, d, chart.Board, 0, chart.Cash, -120000, chart.Principal, 120000)},                                                                   // the same
		{entry(id, d, chart.Board, 0, chart.Cash, -120001, chart.Principal, 120001)},                                                                   // another amount
		{entry(id, d, chart.Board, 0, chart.Cash, -120000, chart.Interest, 120000)},                                                                    // another account
		{entry(id, d, chart.Board, 0, chart.Cash, -120000, chart.Principal, 120000, chart.Interest, 0)},                                                // one more leg
		{entry(id, d, chart.Board, 1, chart.Cash, -120000, chart.Principal, 120000)},                                                                   // another Seq
		{entry(id, d+5, chart.Board, 0, chart.Cash, -120000, chart.Principal, 120000), entry(id, 0, chart.Off, 7, chart.Cash, 0)},                      // other days
		{entry(id, d, chart.Fee, 0, chart.Cash, -120000, chart.Principal, 120000), entry(id, api.MaxDay, chart.Accrue, 0, chart.Interest, 0)},          // another kind
		{entry(id, d+1, chart.Accrue, 0, chart.Interest, 20, chart.Income, -20), entry(id, d, chart.Accrue, 0, chart.Interest, 20, chart.Income, -20)}, // one the same, one not
		{entry(id, d, chart.Pay, 1, chart.Cash, most, chart.Principal, -most), entry(id, d, chart.Pay, 2, chart.Cash, -most, chart.Principal, most)},
	} {
		b := ledger.New()
		for _, e := range was {
			must(t, b.Post(e))
		}
		m := newModel(t, id, l.Terms(), nil)
		m.through = l.Through()
		m.sync(t, l, b)
		n := b.Len()
		m.sync(t, l, b)
		if b.Len() != n {
			t.Fatal(b.Len(), n)
		}
	}
}

func TestSyncAnyLedger(t *testing.T) {
	g := rand.New(rand.NewSource(184))
	for range 300 {
		x := someTerms(g)
		m := newModel(t, uint32(g.Intn(3)), x, nil)
		l := made(t, m.id, x)
		for range 12 {
			step(t, g, l, m)
		}
		b := ledger.New()
		// Some of the entries are there, some others instead, some besides.
		for _, e := range l.Entries() {
			switch g.Intn(4) {
			case 0:
				must(t, b.Post(e))
			case 1:
				must(t, b.Post(chart.Make(e.Key, chart.Leg{Account: byte(1 + g.Intn(9))})))
			case 2:
				e.Key.Seq += uint32(g.Intn(3) * 1000)
				must(t, b.Post(e))
			}
		}
		other := entry(m.id+1, x.Start, chart.Board, 0, chart.Cash, -7, chart.Principal, 7)
		must(t, b.Post(other))
		m.sync(t, l, b)
		wantBalanced(t, b)
		if !reflect.DeepEqual(b.Loan(m.id+1), []chart.Entry{other}) {
			t.Fatal(b.Loan(m.id + 1))
		}
	}
}

// wantBalanced holds that each control is the sum of the balances, and all controls add up to nothing.
func wantBalanced(t *testing.T, b *ledger.Ledger) {
	t.Helper()
	all := coin.Coin(0)
	for account := range byte(10) {
		sum := coin.Coin(0)
		for _, n := range b.Loans() {
			sum += b.Balance(n, account)
		}
		if sum != b.Control(account) {
			t.Fatal(account, sum, b.Control(account))
		}
		all += sum
	}
	if all != 0 {
		t.Fatal(all)
	}
}

// P18.4, P5: when the events came doesn't show.

func TestTheOrderInWhichEventsCome(t *testing.T) {
	g := rand.New(rand.NewSource(5))
	ends := map[byte]int{}
	for range 200 {
		x := someTerms(g)
		a, b := ledger.New(), ledger.New()
		prompt := promptly(t, g, made(t, id, x), a)
		tardy := made(t, id, x)
		if !tardily(t, g, tardy, b, prompt.Events()) {
			continue
		}
		if prompt.State() != tardy.State() || !reflect.DeepEqual(prompt.Entries(), tardy.Entries()) || !reflect.DeepEqual(a.Loan(id), b.Loan(id)) {
			t.Fatalf("%s: %v, %v", x.Text(), prompt.Events(), tardy.Events())
		}
		ends[prompt.State().Status]++
		wantBalanced(t, a)
		wantBalanced(t, b)
	}
	for _, n := range []byte{story.Active, story.Closed, story.Lost} {
		if ends[n] < 5 {
			t.Fatal(ends)
		}
	}
}

// inTime is how many days a loan is run while all that happened may still be taken.
const inTime = 25

// promptly runs the loan, with some events, each on its day.
func promptly(t *testing.T, g *rand.Rand, l *loan.Loan, b *ledger.Ledger) *loan.Loan {
	t.Helper()
	m := newModel(t, id, l.Terms(), nil)
	for today := m.x.Start; today < m.x.Start+inTime; today++ {
		for range g.Intn(3) {
			m.past, m.through = l.Events(), l.Through()
			e := someEvent(g, m, today)
			e.Seq, e.Day = uint32(g.Intn(100000)), today
			err := l.Take(e, today)
			if n := api.Code(err); n == api.ErrWindow {
				t.Fatalf("%v: error %d", e, n)
			}
		}
		must(t, l.Sync(b), l.Run(today), l.Sync(b))
	}
	return l
}

// tardily runs the loan, and has it take all those events behind that, in any order; false: some aren't taken, as others have ended it.
func tardily(t *testing.T, g *rand.Rand, l *loan.Loan, b *ledger.Ledger, events []loan.Past) bool {
	t.Helper()
	for range inTime {
		run(t, l, 1)
		if g.Intn(3) == 0 {
			must(t, l.Sync(b))
		}
	}
	g.Shuffle(len(events), func(i, k int) { events[i], events[k] = events[k], events[i] })
	// An event by which the loan isn't ended after all may let others be taken that were refused.
	for range events {
		for _, x := range events {
			if l.Take(x.Event, l.Through()+1) == nil && g.Intn(3) == 0 {
				must(t, l.Sync(b))
			}
		}
	}
	must(t, l.Sync(b))
	return len(l.Events()) == len(events)
}

// P18.2, P7: the ledger's errors.

// wantRefused holds that Sync answers ErrOver, and changes nothing.
func wantRefused(t *testing.T, l *loan.Loan, b *ledger.Ledger) {
	t.Helper()
	was, lines, loans := l.Bytes(), b.Bytes(), len(b.Loans())
	wantErr(t, "Sync", l.Sync(b), api.ErrOver, l.ID())
	if !bytes.Equal(l.Bytes(), was) || !bytes.Equal(b.Bytes(), lines) || len(b.Loans()) != loans {
		t.Fatal("what was refused changed something")
	}
}

// posted is a ledger of these entries.
func posted(t *testing.T, l ...chart.Entry) *ledger.Ledger {
	t.Helper()
	b := ledger.New()
	for _, e := range l {
		must(t, b.Post(e))
	}
	return b
}

func TestSyncOfAPostThatIsOver(t *testing.T) {
	l, _ := ran(t, 2)
	for _, c := range []struct {
		room coin.Coin
		want api.Errno
	}{{0, api.ErrOver}, {18, api.ErrOver}, {38, api.ErrOver}, {39, api.OK}, {40, api.OK}} {
		// The Board would go well: it isn't there either.
		b := posted(t, entry(9, 5, chart.Accrue, 0, chart.Interest, most-c.room, chart.Income, c.room-most))
		if c.want != api.OK {
			wantRefused(t, l, b)
			continue
		}
		must(t, l.Sync(b))
		wantLive(t, l, b)
	}
	// A credit that goes over.
	wantRefused(t, l, posted(t, entry(9, 5, chart.Accrue, 0, chart.Cash, -most, chart.Income, most)))
}

func TestSyncOfABalanceThatIsOver(t *testing.T) {
	l, d := ran(t, 1)
	// Of another loan about the same the other way: the controls have room.
	other := entry(9, d, chart.Pay, 1, chart.Interest, 100-most, chart.Income, most-100)
	b := posted(t, other,
		entry(id, d-1, chart.Pay, 4, chart.Loss, 5, chart.Recovered, -5), // this one could be reversed
		entry(id, d, chart.Pay, 1, chart.Interest, -5, chart.Income, 5),
		entry(id, d, chart.Pay, 2, chart.Interest, most, chart.Income, -most),
		entry(id, d, chart.Pay, 3, chart.Interest, 5, chart.Income, -5))
	wantRefused(t, l, b)
	b = posted(t, other,
		entry(id, d, chart.Pay, 1, chart.Interest, -5, chart.Income, 5),
		entry(id, d, chart.Pay, 2, chart.Interest, most, chart.Income, -most))
	must(t, l.Sync(b)) // up to 64 bits, and no further
	wantLive(t, l, b)
}

func TestSyncOfAReversalThatIsOver(t *testing.T) {
	l, d := ran(t, 1)
	for _, kind := range []byte{chart.Accrue, chart.Off} { // ahead of another reversal, and behind one
		b := posted(t,
			entry(9, d, chart.Pay, 1, chart.Cash, 1, chart.Fees, -1),
			entry(id, d, kind, 7, chart.Cash, fewest, chart.Fees, 1<<62, chart.Recovered, 1<<62),
			entry(id, d, chart.Pay, 7, chart.Loss, 1, chart.Recovered, -1))
		wantRefused(t, l, b) // no amount is the lowest one the other way
	}
	// The first reversal goes over, though the second would make room.
	b := posted(t,
		entry(id, d, chart.Pay, 1, chart.Suspense, -5, chart.Loss, 5),
		entry(9, d, chart.Pay, 1, chart.Suspense, most, chart.Loss, -most),
		entry(id, d, chart.Pay, 2, chart.Suspense, 5, chart.Loss, -5))
	wantRefused(t, l, b)
}

func TestSyncIsInItsOrder(t *testing.T) {
	l, d := ran(t, 1)
	// What is reversed makes room for what is posted, and a first reversal for the second.
	b := posted(t,
		entry(id, d+9, chart.Pay, 1, chart.Interest, 19, chart.Income, -19),
		entry(9, d, chart.Pay, 1, chart.Interest, most-19, chart.Income, 19-most))
	must(t, l.Sync(b))
	wantLive(t, l, b)
	b = posted(t,
		entry(id, d, chart.Pay, 2, chart.Suspense, -5, chart.Loss, 5),
		entry(9, d, chart.Pay, 1, chart.Suspense, most, chart.Loss, -most),
		entry(id, d, chart.Pay, 1, chart.Suspense, 5, chart.Loss, -5))
	must(t, l.Sync(b))
	wantLive(t, l, b)
	if b.Control(chart.Suspense) != most || b.Balance(id, chart.Suspense) != 0 {
		t.Fatal(b.Control(chart.Suspense))
	}
}

func TestSyncOfTheGreatest(t *testing.T) {
	x := read(t, "only 10000000000.00 1000000 thirty 480 2024-01-31 10000000.00 0")
	l := made(t, math.MaxUint32, x)
	b := ledger.New()
	for k := range uint32(api.MaxEvents) {
		must(t, l.Take(fee(k, x.Start, api.MaxMoney), x.Start))
	}
	run(t, l, 800)
	must(t, l.Sync(b))
	wantLive(t, l, b)
	wantBalanced(t, b)
	if n := b.Balance(math.MaxUint32, chart.Fees); n != l.State().Owed.Fees || n <= 500*api.MaxMoney {
		t.Fatal(n)
	}
}
