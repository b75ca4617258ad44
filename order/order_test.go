package order_test

import (
	"math"
	"math/rand"
	"slices"
	"testing"

	"arrears/api"
	"arrears/coin"
	"arrears/date"
	"arrears/level"
	"arrears/order"
	"arrears/span"
	"arrears/story"
	"arrears/terms"
	"arrears/yield"
)

var (
	numbers = []uint32{0, 1, 3, 7, 9, 10, 127, 128, 255, 256, 300, 65535, 65536, math.MaxInt32, 1 << 31, math.MaxUint32 - 1, math.MaxUint32}
	days    = []date.Day{0, 1, 255, 256, 738000, terms.MaxStart, terms.MaxStart + 1, api.MaxDay - 1, api.MaxDay}
	amounts = []coin.Coin{1, 5, 99, 100, 101, 255, 256, 500, 120000, api.MaxMoney - 1, api.MaxMoney}
)

// usual is the terms of the stage's example.
func usual() terms.Terms {
	return terms.Terms{Kind: level.Level, Principal: 120000, Rate: yield.Rate{Parts: 60000, Basis: span.Actual}, Months: 12, Start: 738915, Fee: 1500, Grace: 10}
}

// rightTerms is terms that may be: usual ones, all at their least, and all at their greatest.
func rightTerms() []terms.Terms {
	return []terms.Terms{
		usual(),
		{Kind: 1, Principal: 1, Rate: yield.Rate{Basis: 1}, Months: 1},
		{Kind: 2, Principal: 1000000000000, Rate: yield.Rate{Parts: 1000000, Basis: 2}, Months: 480, Start: 3600000, Fee: 1000000000, Grace: 60},
	}
}

// wrongTerms is terms that may not be: each field alone behind its edges.
func wrongTerms() []terms.Terms {
	l := []terms.Terms{{}, {Kind: 1}}
	for _, spoil := range []func(x *terms.Terms){
		func(x *terms.Terms) { x.Kind = 0 },
		func(x *terms.Terms) { x.Kind = 3 },
		func(x *terms.Terms) { x.Principal = 0 },
		func(x *terms.Terms) { x.Principal = -1 },
		func(x *terms.Terms) { x.Principal = api.MaxMoney + 1 },
		func(x *terms.Terms) { x.Rate.Parts = api.MaxRate + 1 },
		func(x *terms.Terms) { x.Rate.Basis = 0 },
		func(x *terms.Terms) { x.Rate.Basis = 3 },
		func(x *terms.Terms) { x.Months = 0 },
		func(x *terms.Terms) { x.Months = api.MaxTerms + 1 },
		func(x *terms.Terms) { x.Start = -1 },
		func(x *terms.Terms) { x.Start = terms.MaxStart + 1 },
		func(x *terms.Terms) { x.Fee = -1 },
		func(x *terms.Terms) { x.Fee = terms.MaxFee + 1 },
		func(x *terms.Terms) { x.Grace = -1 },
		func(x *terms.Terms) { x.Grace = terms.MaxGrace + 1 },
	} {
		for _, x := range rightTerms() {
			spoil(&x)
			l = append(l, x)
		}
	}
	return l
}

// rightEvents is events that may be, at each field's edges.
func rightEvents() []story.Event {
	l := []story.Event{}
	for _, kind := range []byte{4, 5, 6} {
		for _, seq := range numbers {
			l = append(l, story.Event{Seq: seq, Day: 738000, Kind: kind, Amount: 500})
		}
		for _, d := range days {
			l = append(l, story.Event{Seq: 1, Day: d, Kind: kind, Amount: 500})
		}
		for _, n := range amounts {
			l = append(l, story.Event{Seq: 1, Day: 738000, Kind: kind, Amount: n})
		}
	}
	for _, seq := range numbers {
		for _, d := range days {
			l = append(l, story.Event{Seq: seq, Day: d, Kind: 7})
		}
	}
	return l
}

// wrongEvents is events that may not be: each fault alone, and none of all.
func wrongEvents() []story.Event {
	l := []story.Event{{}, {Seq: 1}}
	for _, kind := range []byte{0, 1, 2, 3, 8, 9, 127, 128, 132, 255} {
		l = append(l, story.Event{Seq: 1, Day: 738000, Kind: kind, Amount: 500}, story.Event{Seq: 1, Day: 738000, Kind: kind})
	}
	for _, kind := range []byte{4, 5, 6, 7} {
		for _, n := range []coin.Coin{-1, -500, api.MaxMoney + 1, math.MaxInt64, math.MinInt64} {
			l = append(l, story.Event{Seq: 1, Day: 738000, Kind: kind, Amount: n})
		}
		for _, d := range []date.Day{-1, -738000, api.MaxDay + 1, math.MaxInt32, math.MinInt32} {
			e := story.Event{Seq: 1, Day: d, Kind: kind, Amount: 500}
			if kind == 7 {
				e.Amount = 0
			}
			l = append(l, e)
		}
	}
	for _, kind := range []byte{4, 5, 6} {
		l = append(l, story.Event{Seq: 1, Day: 738000, Kind: kind})
	}
	for _, n := range amounts {
		l = append(l, story.Event{Seq: 1, Day: 738000, Kind: 7, Amount: n})
	}
	return l
}

func board(loan uint32, x terms.Terms) order.Order {
	return order.Order{Kind: 1, Loan: loan, Terms: x}
}

func take(loan uint32, e story.Event) order.Order {
	return order.Order{Kind: 2, Loan: loan, Event: e}
}

func reverse(loan, seq uint32) order.Order {
	return order.Order{Kind: 3, Loan: loan, Event: story.Event{Seq: seq}}
}

func step() order.Order {
	return order.Order{Kind: 4}
}

// rightOrders is orders that may be: each kind's, at each field's edges, and any.
func rightOrders() []order.Order {
	l := []order.Order{step()}
	for _, loan := range numbers {
		for _, x := range rightTerms() {
			l = append(l, board(loan, x))
		}
		for _, kind := range []byte{4, 5, 6} {
			l = append(l, take(loan, story.Event{Seq: 1, Day: 738000, Kind: kind, Amount: 500}))
		}
		l = append(l, take(loan, story.Event{Seq: 1, Day: 738000, Kind: 7}))
		for _, seq := range numbers {
			l = append(l, reverse(loan, seq))
		}
	}
	for _, e := range rightEvents() {
		l = append(l, take(3, e))
	}
	g := rand.New(rand.NewSource(20))
	for k := range 200 {
		e := story.Event{
			Seq:    g.Uint32() >> (k % 32),
			Day:    date.Day(g.Intn(api.MaxDay+1) >> (k % 22)),
			Kind:   byte(4 + g.Intn(3)),
			Amount: 1 + coin.Coin(g.Int63n(api.MaxMoney)>>(k%40)),
		}
		l = append(l, take(g.Uint32()>>(k%31), e))
	}
	return l
}

// strange is o with one thing more, that no order but those of other kinds has.
func strange(o order.Order) []order.Order {
	l := []order.Order{}
	with := func(change func(o *order.Order)) {
		changed := o
		change(&changed)
		l = append(l, changed)
	}
	if o.Kind == order.Step {
		for _, loan := range numbers[1:] {
			with(func(o *order.Order) { o.Loan = loan })
		}
	}
	if o.Kind != order.Board {
		with(func(o *order.Order) { o.Terms = usual() })
		with(func(o *order.Order) { o.Terms.Kind = 1 })
		with(func(o *order.Order) { o.Terms.Principal = 1 })
		with(func(o *order.Order) { o.Terms.Principal = math.MinInt64 })
		with(func(o *order.Order) { o.Terms.Rate.Parts = 1 })
		with(func(o *order.Order) { o.Terms.Rate.Basis = 1 })
		with(func(o *order.Order) { o.Terms.Months = -1 })
		with(func(o *order.Order) { o.Terms.Start = 738000 })
		with(func(o *order.Order) { o.Terms.Fee = 1 })
		with(func(o *order.Order) { o.Terms.Grace = 1 })
	}
	if o.Kind != order.Take {
		with(func(o *order.Order) { o.Event.Day = 738000 })
		with(func(o *order.Order) { o.Event.Day = -1 })
		with(func(o *order.Order) { o.Event.Kind = 4 })
		with(func(o *order.Order) { o.Event.Kind = 255 })
		with(func(o *order.Order) { o.Event.Amount = 1 })
		with(func(o *order.Order) { o.Event.Amount = -1 })
		with(func(o *order.Order) { o.Event = story.Event{Seq: o.Event.Seq, Day: 738000, Kind: 4, Amount: 500} })
	}
	if o.Kind != order.Take && o.Kind != order.Reverse {
		with(func(o *order.Order) { o.Event.Seq = 1 })
		with(func(o *order.Order) { o.Event.Seq = math.MaxUint32 })
	}
	return l
}

// wrongOrders is orders that may not be, but for what their kinds don't name.
func wrongOrders() []order.Order {
	l := []order.Order{{}}
	for _, loan := range []uint32{0, 3, math.MaxUint32} {
		for _, x := range wrongTerms() {
			l = append(l, board(loan, x))
		}
		for _, e := range wrongEvents() {
			l = append(l, take(loan, e))
		}
	}
	for n := range 256 {
		if n >= 1 && n <= 4 {
			continue
		}
		for _, o := range []order.Order{board(3, usual()), take(3, rightEvents()[0]), reverse(3, 1), step(), reverse(0, 0)} {
			o.Kind = byte(n)
			l = append(l, o)
		}
	}
	return l
}

// strangeOrders is orders that have something that their kinds don't name.
func strangeOrders() []order.Order {
	l := []order.Order{}
	for _, o := range []order.Order{board(3, usual()), take(3, story.Event{Seq: 1, Day: 738000, Kind: 4, Amount: 500}), take(0, story.Event{Kind: 7}), reverse(3, 1), reverse(0, 0), step()} {
		l = append(l, strange(o)...)
	}
	return l
}

// P20.1: the kinds, Right.

func TestTheKinds(t *testing.T) {
	kinds := [4]byte{order.Board, order.Take, order.Reverse, order.Step}
	if kinds != [4]byte{1, 2, 3, 4} {
		t.Fatal(kinds)
	}
}

func TestRight(t *testing.T) {
	for _, o := range rightOrders() {
		if !o.Right() {
			t.Fatalf("%v isn't right", o)
		}
		for _, more := range strange(o) {
			if more.Right() {
				t.Fatalf("%v is right", more)
			}
		}
	}
	for _, o := range slices.Concat(wrongOrders(), strangeOrders()) {
		if o.Right() {
			t.Fatalf("%v is right", o)
		}
	}
}

// What a kind asks for is none of another's.
func TestRightOfEachKind(t *testing.T) {
	for n := range 256 {
		for k, o := range []order.Order{board(3, usual()), take(3, story.Event{Seq: 1, Day: 738000, Kind: 4, Amount: 500}), reverse(3, 1), step()} {
			o.Kind = byte(n)
			// What a Step has, a Reverse of the loan 0 and the Seq 0 has, too.
			if o.Right() != (n == k+1 || o == reverse(0, 0)) {
				t.Fatalf("%v: %v", o, o.Right())
			}
		}
	}
}

func TestRightOfNothing(t *testing.T) {
	for n := range 256 {
		o := order.Order{Kind: byte(n)}
		if o.Right() != (n == order.Reverse || n == order.Step) {
			t.Fatal(n, o.Right())
		}
		o.Loan = 3
		if o.Right() != (n == order.Reverse) {
			t.Fatal(n, o.Right())
		}
	}
}

func TestWhatIsDoneWithAnOrderLeavesIt(t *testing.T) {
	for _, o := range slices.Concat(rightOrders(), wrongOrders(), strangeOrders()) {
		was := o
		for range 2 {
			o.Right()
			o.Bytes()
			o.Text()
			o.Do(nil)
			if o != was {
				t.Fatal(o, was)
			}
		}
	}
}
