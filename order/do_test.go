package order_test

import (
	"bytes"
	"math"
	"math/rand"
	"slices"
	"testing"

	"arrears/api"
	"arrears/bank"
	"arrears/coin"
	"arrears/date"
	"arrears/due"
	"arrears/order"
	"arrears/story"
	"arrears/terms"
)

// start is the usual terms' Start.
const start date.Day = 738915

func made(t *testing.T, today date.Day, h ...date.Day) *bank.Bank {
	t.Helper()
	b, err := bank.New(today, h)
	if err != nil {
		t.Fatal(today, api.Code(err))
	}
	return b
}

// from is the usual terms of a loan that begins on that day.
func from(d date.Day) terms.Terms {
	x := usual()
	x.Start = d
	return x
}

// does asks all of them, none of which has an error.
func does(t *testing.T, b *bank.Bank, l ...order.Order) {
	t.Helper()
	for _, o := range l {
		if id, done, err := o.Do(b); err != nil || o.Kind != order.Step && (id != 0 || done) {
			t.Fatalf("%v: %d, %v, error %d", o, id, done, api.Code(err))
		}
	}
}

// wantRefused holds that the bank refuses it with that error, and stays as it was.
func wantRefused(t *testing.T, b *bank.Bank, o order.Order, want api.Errno) {
	t.Helper()
	was, left := b.Bytes(), b.Left()
	id, done, err := o.Do(b)
	if id != 0 || done || api.Code(err) != want {
		t.Fatalf("%v: %d, %v, error %d, want %d", o, id, done, api.Code(err), want)
	}
	if !bytes.Equal(b.Bytes(), was) || b.Left() != left {
		t.Fatalf("%v was refused, and changed something", o)
	}
}

// wantRefusedAt holds that the error is that loan's, too.
func wantRefusedAt(t *testing.T, b *bank.Bank, o order.Order, want api.Errno) {
	t.Helper()
	wantRefused(t, b, o, want)
	if _, _, err := o.Do(b); api.At(err) != uint64(o.Loan) {
		t.Fatalf("%v: error %d at %d", o, api.Code(err), api.At(err))
	}
}

func wantStep(t *testing.T, b *bank.Bank, id uint32, done bool) {
	t.Helper()
	if n, d, err := step().Do(b); n != id || d != done || err != nil {
		t.Fatalf("step: %d, %v, error %d, want %d, %v", n, d, api.Code(err), id, done)
	}
}

// P20.3: Do.

func TestDo(t *testing.T) {
	b := made(t, start)
	does(t, b, board(7, from(start)), board(3, from(start)))
	if !slices.Equal(b.IDs(), []uint32{3, 7}) || b.Loan(3).Terms() != from(start) || b.Left() != 2 {
		t.Fatal(b.IDs(), b.Left())
	}
	wantStep(t, b, 3, false)
	wantStep(t, b, 7, false)
	wantStep(t, b, 0, true)
	if b.Today() != start+1 || b.Left() != 2 {
		t.Fatal(b.Today(), b.Left())
	}
	e := story.Event{Seq: 9, Day: start, Kind: story.Pay, Amount: 500}
	does(t, b, take(7, e))
	if l := b.Loan(7).Events(); len(l) != 1 || l[0].Event != e || l[0].Gone || b.Loan(7).State().Cash != 500 || len(b.Loan(3).Events()) != 0 {
		t.Fatal(l)
	}
	does(t, b, reverse(7, 9))
	if l := b.Loan(7).Events(); len(l) != 1 || !l[0].Gone || b.Loan(7).State().Cash != 0 {
		t.Fatal(l)
	}
	does(t, b, take(3, story.Event{Seq: 1, Day: start, Kind: story.Fee, Amount: 70}), take(3, story.Event{Seq: 2, Day: start, Kind: story.Waive, Amount: 30}))
	if n := b.Loan(3).State().Owed.Fees; n != 40 {
		t.Fatal(n)
	}
	does(t, b, take(3, story.Event{Seq: 4, Day: start + 1, Kind: story.Off}))
	if n := b.Loan(3).State().Status; n != story.Lost {
		t.Fatal(n)
	}
}

func TestDoOfAText(t *testing.T) {
	b := made(t, start)
	for _, s := range []string{plainBoard, "step", "step", "pay 3 1 2024-01-31 5.00", "fee 3 2 2024-02-01 0.01", "reverse 3 1", "off 3 4 2024-02-01"} {
		o, err := order.Read(s)
		if err != nil {
			t.Fatal(s, api.Code(err))
		}
		does(t, b, o)
	}
	st := b.Loan(3).State()
	if b.Today() != start+1 || st.Status != story.Lost || st.Cash != 0 || len(b.Loan(3).Events()) != 3 {
		t.Fatal(b.Today(), st)
	}
}

func TestDoOfWhatIsNotRight(t *testing.T) {
	b := made(t, start)
	does(t, b, board(3, from(start)), board(0, from(start)))
	was := b.Bytes()
	for _, o := range slices.Concat(wrongOrders(), strangeOrders()) {
		if id, done, err := o.Do(b); id != 0 || done || api.Code(err) != api.ErrForm {
			t.Fatalf("%v: %d, %v, error %d", o, id, done, api.Code(err))
		}
	}
	if !bytes.Equal(b.Bytes(), was) || b.Left() != 2 {
		t.Fatal("what isn't right changed something")
	}
}

// That it isn't Right is told ahead of all that the bank would say.
func TestDoTellsErrFormAheadOfTheBanksErrors(t *testing.T) {
	b := made(t, start)
	does(t, b, board(3, from(start)))
	for _, o := range []order.Order{
		board(3, terms.Terms{}), // ErrTwice, too
		board(4, from(-1)),      // ErrArg
		board(4, from(terms.MaxStart+1)),
		take(3, story.Event{}), // ErrArg
		take(4, story.Event{}), // ErrNone
		{Kind: order.Take, Loan: 4, Terms: usual(), Event: off(1, 0)}, // ErrNone
		{Kind: order.Reverse, Loan: 4, Event: off(1, start)},          // ErrNone
		{Kind: order.Step, Loan: 4},
	} {
		wantRefused(t, b, o, api.ErrForm)
	}
	last := made(t, terms.MaxStart)
	wantRefused(t, last, order.Order{Kind: order.Step, Loan: 1}, api.ErrForm) // ErrWindow
}

func TestDoOfNoBank(t *testing.T) {
	for _, o := range slices.Concat(rightOrders(), wrongOrders(), strangeOrders()) {
		if id, done, err := o.Do(nil); id != 0 || done || api.Code(err) != api.ErrNone {
			t.Fatalf("%v: %d, %v, error %d", o, id, done, api.Code(err))
		}
	}
}

func off(seq uint32, d date.Day) story.Event {
	return story.Event{Seq: seq, Day: d, Kind: story.Off}
}

func pay(seq uint32, d date.Day, n coin.Coin) story.Event {
	return story.Event{Seq: seq, Day: d, Kind: story.Pay, Amount: n}
}

func TestDosErrorsAreTheBanks(t *testing.T) {
	b := made(t, start)
	for _, id := range []uint32{0, 3, 5, math.MaxUint32} {
		does(t, b, board(id, from(start)))
	}
	does(t, b, take(3, pay(1, start, 5)), take(3, pay(2, start, 5)), reverse(3, 2), take(3, story.Event{Seq: 8, Day: start, Kind: story.Fee, Amount: 5}), take(0, pay(1, start, 200000)), take(5, off(1, start)))
	for _, c := range []struct {
		o    order.Order
		want api.Errno
	}{
		{board(3, from(start)), api.ErrTwice},
		{board(3, from(start+1)), api.ErrTwice},
		{board(math.MaxUint32, from(start)), api.ErrTwice},
		{board(4, from(start+1)), api.ErrWindow},
		{board(4, from(0)), api.ErrWindow},
		{take(4, pay(1, start, 5)), api.ErrNone},
		{take(3, pay(1, start, 5)), api.ErrTwice},
		{take(3, pay(2, start, 5)), api.ErrTwice},
		{take(3, pay(3, start+1, 5)), api.ErrWindow},
		{take(3, pay(3, start-1, 5)), api.ErrWindow},
		{take(0, pay(3, start, 5)), api.ErrClosed},
		{take(5, story.Event{Seq: 3, Day: start, Kind: story.Waive, Amount: 5}), api.ErrState},
		{reverse(4, 1), api.ErrNone},
		{reverse(3, 3), api.ErrNone},
		{reverse(3, 2), api.ErrState},
		{reverse(3, 8), api.ErrArg},
	} {
		wantRefusedAt(t, b, c.o, c.want)
	}
	for k := range uint32(api.MaxEvents - 3) {
		does(t, b, take(3, story.Event{Seq: 100 + k, Day: start, Kind: story.Fee, Amount: 1}))
	}
	wantRefusedAt(t, b, take(3, pay(3, start, 5)), api.ErrLimit)
	for b.Today() < start+30 {
		does(t, b, step())
	}
	wantRefusedAt(t, b, reverse(3, 1), api.ErrWindow)
}

func TestStepOnTheLastDay(t *testing.T) {
	b := made(t, terms.MaxStart-1)
	wantStep(t, b, 0, true)
	does(t, b, board(4, from(terms.MaxStart)))
	wantStep(t, b, 4, false)
	wantRefused(t, b, step(), api.ErrWindow)
	wantRefused(t, b, step(), api.ErrWindow)
}

// asked is that call of the bank itself.
func asked(b *bank.Bank, o order.Order) (uint32, bool, error) {
	switch o.Kind {
	case 1:
		return 0, false, b.Board(o.Loan, o.Terms)
	case 2:
		return 0, false, b.Take(o.Loan, o.Event)
	case 3:
		return 0, false, b.Reverse(o.Loan, o.Event.Seq)
	}
	return b.Step()
}

// someOrder is one that is right, of what b may have.
func someOrder(g *rand.Rand, b *bank.Bank) order.Order {
	today, id := b.Today(), uint32(g.Intn(5))
	switch g.Intn(8) {
	case 0:
		return board(id, from(min(max(0, today+date.Day(g.Intn(8)/6-g.Intn(8)/6)), terms.MaxStart)))
	case 1, 2:
		e := story.Event{Seq: uint32(g.Intn(40)), Day: today + 1 - date.Day(g.Intn(36)>>g.Intn(6)), Kind: byte(4 + g.Intn(3)), Amount: 1 + coin.Coin(g.Intn(200000)>>g.Intn(16))}
		// Of no such loan the quote is 0.
		quote, _ := b.Quote(id)
		switch g.Intn(20) {
		case 0:
			e.Kind, e.Amount = story.Off, 0
		case 1, 2:
			e.Kind, e.Amount = story.Pay, max(quote, 1)
		}
		return take(id, e)
	case 3:
		if l := b.Loan(id).Events(); len(l) > 0 && g.Intn(5) > 0 {
			return reverse(id, l[g.Intn(len(l))].Event.Seq)
		}
		return reverse(id, uint32(g.Intn(40)))
	}
	return step()
}

// TestAnyOrders: an order does what that call of the bank does, itself, of its bytes, and of its text.
func TestAnyOrders(t *testing.T) {
	g := rand.New(rand.NewSource(204))
	told := map[int]int{}
	for n := range 30 {
		today := date.Day(50 + g.Intn(terms.MaxStart-200))
		if n%5 == 0 {
			today = terms.MaxStart - date.Day(g.Intn(20))
		}
		h := due.Holy{today + 31, today + 32}
		want := made(t, today, h...)
		l := []*bank.Bank{made(t, today, h...), made(t, today, h...), made(t, today, h...)}
		for range 500 {
			o := someOrder(g, want)
			id, done, err := asked(want, o)
			told[100*int(o.Kind)+int(api.Code(err))]++
			parsed, err1 := order.Parse(o.Bytes())
			read, err2 := order.Read(o.Text())
			if err1 != nil || err2 != nil {
				t.Fatalf("%v: error %d, error %d", o, api.Code(err1), api.Code(err2))
			}
			for k, same := range []order.Order{o, parsed, read} {
				id1, done1, err1 := same.Do(l[k])
				if id1 != id || done1 != done || api.Code(err1) != api.Code(err) || api.At(err1) != api.At(err) {
					t.Fatalf("%v: %d, %v, error %d at %d, want %d, %v, %d at %d", o, id1, done1, api.Code(err1), api.At(err1), id, done, api.Code(err), api.At(err))
				}
				if l[k].Left() != want.Left() || l[k].Today() != want.Today() {
					t.Fatalf("%v: another bank", o)
				}
			}
		}
		for _, b := range l {
			if !bank.Same(b, want) {
				t.Fatal("another bank")
			}
		}
	}
	for _, n := range []api.Errno{
		100, 100 + api.ErrTwice, 100 + api.ErrWindow,
		200, 200 + api.ErrNone, 200 + api.ErrTwice, 200 + api.ErrWindow, 200 + api.ErrClosed, 200 + api.ErrState,
		300, 300 + api.ErrNone, 300 + api.ErrState, 300 + api.ErrArg, 300 + api.ErrWindow,
		400, 400 + api.ErrWindow,
	} {
		if told[int(n)] < 3 {
			t.Fatalf("%d was told %d times: %v", n, told[int(n)], told)
		}
	}
}
