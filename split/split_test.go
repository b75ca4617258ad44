package split_test

import (
	"math"
	"math/big"
	"math/rand"
	"testing"

	"arrears/api"
	"arrears/coin"
	"arrears/split"
)

const most = math.MaxInt64

var (
	amounts = []coin.Coin{0, 1, 2, 5, 10, 99, 100, api.MaxMoney, api.MaxMoney + 1, 1 << 62, most/3 + 1, most / 3, most - 1, most}
	below   = []coin.Coin{-1, -2, -100, -api.MaxMoney, math.MinInt64, math.MinInt64 + 1}
	o       = split.Owed{Fees: 5, Interest: 10, Principal: 100}
)

// owed is each of three of the amounts.
func owed() []split.Owed {
	l := []split.Owed{}
	for _, f := range amounts {
		for _, i := range amounts {
			for _, p := range amounts {
				l = append(l, split.Owed{Fees: f, Interest: i, Principal: p})
			}
		}
	}
	return l
}

// wrong is what isn't Right: each of the parts alone, some, and all of them.
func wrong() []split.Owed {
	l := []split.Owed{}
	for _, n := range below {
		for bits := 1; bits < 8; bits++ {
			p := o
			if bits&1 != 0 {
				p.Fees = n
			}
			if bits&2 != 0 {
				p.Interest = n
			}
			if bits&4 != 0 {
				p.Principal = n
			}
			l = append(l, p)
		}
	}
	return l
}

func bigSum(l ...coin.Coin) *big.Int {
	sum := new(big.Int)
	for _, c := range l {
		sum.Add(sum, big.NewInt(int64(c)))
	}
	return sum
}

// modelFrom is From of right arguments, word by word.
func modelFrom(o split.Owed, first int, amount coin.Coin) (split.Owed, coin.Coin) {
	paid := [3]coin.Coin{}
	for k, c := range [3]coin.Coin{o.Fees, o.Interest, o.Principal} {
		if k < first {
			continue
		}
		paid[k] = c
		if amount < c {
			paid[k] = amount
		}
		amount -= paid[k]
	}
	return split.Owed{Fees: paid[0], Interest: paid[1], Principal: paid[2]}, amount
}

// P11.1: Right and All.

func TestRight(t *testing.T) {
	for _, p := range owed() {
		if !p.Right() {
			t.Fatalf("%v isn't right", p)
		}
	}
	for _, p := range wrong() {
		if p.Right() {
			t.Fatalf("%v is right", p)
		}
	}
}

func TestAll(t *testing.T) {
	for _, p := range owed() {
		n, err := p.All()
		want := bigSum(p.Fees, p.Interest, p.Principal)
		if !want.IsInt64() {
			if n != 0 || api.Code(err) != api.ErrOver {
				t.Fatalf("%v.All() = %d, %v, where it is over", p, n, err)
			}
		} else if int64(n) != want.Int64() || err != nil {
			t.Fatalf("%v.All() = %d, %v, want %d", p, n, err, want)
		}
	}
	for _, p := range wrong() {
		if n, err := p.All(); n != 0 || api.Code(err) != api.ErrArg {
			t.Fatalf("%v.All() = %d, %v", p, n, err)
		}
	}
}

func TestAllAtItsEdge(t *testing.T) {
	for _, x := range []struct {
		o    split.Owed
		n    coin.Coin
		want api.Errno
	}{
		{split.Owed{}, 0, api.OK},
		{o, 115, api.OK},
		{split.Owed{Fees: most}, most, api.OK},
		{split.Owed{Fees: most - 2, Interest: 1, Principal: 1}, most, api.OK},
		{split.Owed{Fees: most - 1, Interest: 1, Principal: 1}, 0, api.ErrOver},
		{split.Owed{Fees: 1, Principal: most}, 0, api.ErrOver},
		{split.Owed{Fees: most, Interest: most, Principal: most}, 0, api.ErrOver},
		{split.Owed{Fees: most, Interest: most, Principal: -1}, 0, api.ErrArg}, // it isn't Right, however great
		{split.Owed{Fees: 5, Interest: -5}, 0, api.ErrArg},
	} {
		if n, err := x.o.All(); n != x.n || api.Code(err) != x.want {
			t.Fatalf("%v.All() = %d, %v, want %d, %d", x.o, n, err, x.n, x.want)
		}
	}
}

// P11.1: Pay and From.

func wantFrom(t *testing.T, o split.Owed, first int, amount coin.Coin) {
	t.Helper()
	p, left, err := o.From(byte(first), amount)
	want, wantLeft := modelFrom(o, first, amount)
	if p != want || left != wantLeft || err != nil {
		t.Fatalf("%v.From(%d, %d) = %v, %d, %v, want %v, %d", o, first, amount, p, left, err, want, wantLeft)
	}
	if sum := bigSum(p.Fees, p.Interest, p.Principal, left); sum.Cmp(bigSum(amount)) != 0 {
		t.Fatalf("%v.From(%d, %d): of the amount %d is told", o, first, amount, sum)
	}
}

func wantPay(t *testing.T, o split.Owed, amount coin.Coin) {
	t.Helper()
	p, left, err := o.Pay(amount)
	want, wantLeft := modelFrom(o, 0, amount)
	if p != want || left != wantLeft || err != nil {
		t.Fatalf("%v.Pay(%d) = %v, %d, %v, want %v, %d", o, amount, p, left, err, want, wantLeft)
	}
}

func TestPayAndFrom(t *testing.T) {
	for _, o := range owed() {
		for _, amount := range amounts {
			wantPay(t, o, amount)
			for first := range 3 {
				wantFrom(t, o, first, amount)
			}
		}
	}
	g := rand.New(rand.NewSource(18))
	for range 100000 {
		o := split.Owed{Fees: coin.Coin(g.Intn(20)), Interest: coin.Coin(g.Intn(20)), Principal: coin.Coin(g.Intn(20))}
		amount := coin.Coin(g.Intn(70))
		wantPay(t, o, amount)
		wantFrom(t, o, g.Intn(3), amount)
	}
}

func TestPayExamples(t *testing.T) {
	for _, x := range []struct {
		first  byte
		amount coin.Coin
		p      split.Owed
		left   coin.Coin
	}{
		{0, 20, split.Owed{Fees: 5, Interest: 10, Principal: 5}, 0},
		{0, 0, split.Owed{}, 0},
		{0, 4, split.Owed{Fees: 4}, 0},
		{0, 5, split.Owed{Fees: 5}, 0},
		{0, 6, split.Owed{Fees: 5, Interest: 1}, 0},
		{0, 15, split.Owed{Fees: 5, Interest: 10}, 0},
		{0, 16, split.Owed{Fees: 5, Interest: 10, Principal: 1}, 0},
		{0, 115, o, 0},
		{0, 116, o, 1},
		{0, most, o, most - 115},
		{1, 0, split.Owed{}, 0},
		{1, 10, split.Owed{Interest: 10}, 0},
		{1, 12, split.Owed{Interest: 10, Principal: 2}, 0},
		{1, 111, split.Owed{Interest: 10, Principal: 100}, 1},
		{2, 99, split.Owed{Principal: 99}, 0},
		{2, 115, split.Owed{Principal: 100}, 15},
	} {
		if p, left, err := o.From(x.first, x.amount); p != x.p || left != x.left || err != nil {
			t.Fatalf("From(%d, %d) = %v, %d, %v, want %v, %d", x.first, x.amount, p, left, err, x.p, x.left)
		}
	}
	if p, left, err := o.Pay(20); p != (split.Owed{Fees: 5, Interest: 10, Principal: 5}) || left != 0 || err != nil {
		t.Fatalf("Pay(20) = %v, %d, %v", p, left, err)
	}
	all := split.Owed{Fees: most, Interest: most, Principal: most}
	if p, left, err := all.Pay(most); p != (split.Owed{Fees: most}) || left != 0 || err != nil {
		t.Fatalf("%v, %d, %v", p, left, err) // its sum is over, but no part is
	}
}

func wantNoPay(t *testing.T, o split.Owed, amount coin.Coin) {
	t.Helper()
	if p, left, err := o.Pay(amount); p != (split.Owed{}) || left != 0 || api.Code(err) != api.ErrArg {
		t.Fatalf("%v.Pay(%d) = %v, %d, %v", o, amount, p, left, err)
	}
}

func wantNoFrom(t *testing.T, o split.Owed, first int, amount coin.Coin) {
	t.Helper()
	if p, left, err := o.From(byte(first), amount); p != (split.Owed{}) || left != 0 || api.Code(err) != api.ErrArg {
		t.Fatalf("%v.From(%d, %d) = %v, %d, %v", o, first, amount, p, left, err)
	}
}

func TestPayAndFromOfWrongArguments(t *testing.T) {
	for _, amount := range below {
		wantNoPay(t, o, amount)
		wantNoPay(t, split.Owed{}, amount)
		for first := range 256 {
			wantNoFrom(t, o, first, amount)
		}
	}
	for _, p := range wrong() {
		for _, amount := range append([]coin.Coin{-1}, amounts...) {
			wantNoPay(t, p, amount)
			for first := range 4 {
				wantNoFrom(t, p, first, amount)
			}
		}
	}
	for first := 3; first < 256; first++ {
		for _, amount := range amounts {
			wantNoFrom(t, o, first, amount)
			wantNoFrom(t, split.Owed{}, first, amount)
		}
	}
}

// P11.1: Less.

func wantLess(t *testing.T, o, p split.Owed) {
	t.Helper()
	d, err := o.Less(p)
	if p.Fees > o.Fees || p.Interest > o.Interest || p.Principal > o.Principal {
		if d != (split.Owed{}) || api.Code(err) != api.ErrArg {
			t.Fatalf("%v.Less(%v) = %v, %v", o, p, d, err)
		}
		return
	}
	want := split.Owed{Fees: o.Fees - p.Fees, Interest: o.Interest - p.Interest, Principal: o.Principal - p.Principal}
	if d != want || err != nil {
		t.Fatalf("%v.Less(%v) = %v, %v, want %v", o, p, d, err, want)
	}
}

func TestLess(t *testing.T) {
	for _, o := range owed() {
		for _, n := range amounts {
			for _, p := range []split.Owed{{}, o, {Fees: n}, {Interest: n}, {Principal: n}, {Fees: n, Interest: n, Principal: n}, {Fees: n, Interest: o.Interest}} {
				wantLess(t, o, p)
			}
		}
	}
	if d, err := o.Less(split.Owed{Interest: 10, Principal: 2}); d != (split.Owed{Fees: 5, Principal: 98}) || err != nil {
		t.Fatal(d, err)
	}
}

func TestLessOfWhatIsPaid(t *testing.T) {
	for _, o := range owed() {
		p, _, err := o.Pay(105)
		if err != nil {
			t.Fatal(o, err)
		}
		wantLess(t, o, p)
		if d, err := o.Less(p); err != nil || !d.Right() {
			t.Fatalf("%v.Less(%v) = %v, %v", o, p, d, err)
		}
	}
}

func TestLessOfWrongArguments(t *testing.T) {
	for _, p := range wrong() {
		for _, q := range append(wrong(), split.Owed{}, o, split.Owed{Fees: most, Interest: most, Principal: most}) {
			for _, x := range [][2]split.Owed{{p, q}, {q, p}} {
				if d, err := x[0].Less(x[1]); d != (split.Owed{}) || api.Code(err) != api.ErrArg {
					t.Fatalf("%v.Less(%v) = %v, %v", x[0], x[1], d, err)
				}
			}
		}
	}
}

func TestWhatIsDoneWithAnOwedLeavesIt(t *testing.T) {
	p := o
	p.Right()
	p.All()
	p.Pay(20)
	p.From(1, 20)
	p.Less(split.Owed{Fees: 1})
	if p != (split.Owed{Fees: 5, Interest: 10, Principal: 100}) {
		t.Fatal(p)
	}
}
