package yield_test

import (
	"math"
	"math/big"
	"math/rand"
	"testing"

	"arrears/api"
	"arrears/coin"
	"arrears/date"
	"arrears/span"
	"arrears/yield"
)

const (
	last    = date.Day(api.MaxDay)
	maxDays = 100000
)

var (
	bases      = []byte{span.Actual, span.Thirty}
	parts      = []uint32{0, 1, 2, 7, 11, 12, 59999, 60000, 365000, 500000, 999999, api.MaxRate}
	principals = []coin.Coin{0, 1, 2, 99, 100, 101, 10000, 120000, 123456789, api.MaxMoney/2 + 1, api.MaxMoney - 1, api.MaxMoney}
	lengths    = []int{0, 1, 2, 3, 28, 29, 30, 31, 360, 365, 366, 36525, maxDays - 1, maxDays}

	wrongRates      = []yield.Rate{{}, {Parts: 60000}, {Basis: 3}, {Parts: 60000, Basis: 3}, {Parts: 60000, Basis: 255}, {Parts: api.MaxRate + 1, Basis: span.Actual}, {Parts: api.MaxRate + 1, Basis: span.Thirty}, {Parts: math.MaxUint32, Basis: span.Actual}, {Parts: math.MaxUint32, Basis: span.Thirty}, {Parts: 1 << 31, Basis: span.Thirty}, {Parts: math.MaxUint32}}
	wrongPrincipals = []coin.Coin{-1, -2, -100, api.MaxMoney + 1, api.MaxMoney + 2, -api.MaxMoney, math.MaxInt64, math.MinInt64, math.MinInt64 + 1}
	wrongLengths    = []int{-1, -2, -30, maxDays + 1, maxDays + 2, math.MaxInt32, math.MinInt32, math.MaxInt, math.MinInt, 1 << 32, 1<<32 + 1}
	wrongDays       = []date.Day{last, last + 1, last + 2, -1, -2, math.MaxInt32, math.MinInt32}
)

// modelUnit is Unit of a right rate, word by word.
func modelUnit(r yield.Rate) uint64 {
	if r.Basis == span.Actual {
		return 365000000
	}
	return 360000000
}

// modelDays is Days of right arguments, word by word.
func modelDays(r yield.Rate, principal coin.Coin, days int, carry uint64) (coin.Coin, uint64) {
	n := big.NewInt(int64(principal))
	n.Mul(n, big.NewInt(int64(r.Parts)))
	n.Mul(n, big.NewInt(int64(days)))
	n.Add(n, new(big.Int).SetUint64(carry))
	whole, left := n.QuoRem(n, new(big.Int).SetUint64(modelUnit(r)), new(big.Int))
	return coin.Coin(whole.Int64()), left.Uint64()
}

// modelMonth is Month of right arguments, word by word: down of a half more.
func modelMonth(r yield.Rate, principal coin.Coin) coin.Coin {
	n := big.NewInt(int64(principal))
	n.Mul(n, big.NewInt(int64(r.Parts)))
	n.Mul(n, big.NewInt(2*30))
	n.Add(n, big.NewInt(360000000))
	return coin.Coin(n.Quo(n, big.NewInt(2*360000000)).Int64())
}

func carries(r yield.Rate) []uint64 {
	unit := modelUnit(r)
	return []uint64{0, 1, 2, unit / 2, unit/2 + 1, unit - 2, unit - 1}
}

func wrongCarries(r yield.Rate) []uint64 {
	unit := modelUnit(r)
	return []uint64{unit, unit + 1, 2 * unit, 1 << 32, 1 << 63, math.MaxUint64}
}

func wantDays(t *testing.T, r yield.Rate, principal coin.Coin, days int, carry uint64) {
	t.Helper()
	n, left, err := r.Days(principal, days, carry)
	want, wantLeft := modelDays(r, principal, days, carry)
	if n != want || left != wantLeft || err != nil {
		t.Fatalf("%v.Days(%d, %d, %d) = %d, %d, %v, want %d, %d", r, principal, days, carry, n, left, err, want, wantLeft)
	}
}

func wantNoDays(t *testing.T, r yield.Rate, principal coin.Coin, days int, carry uint64) {
	t.Helper()
	if n, left, err := r.Days(principal, days, carry); n != 0 || left != 0 || api.Code(err) != api.ErrArg {
		t.Fatalf("%v.Days(%d, %d, %d) = %d, %d, %v", r, principal, days, carry, n, left, err)
	}
}

func wantNoDay(t *testing.T, r yield.Rate, principal coin.Coin, d date.Day, carry uint64) {
	t.Helper()
	if n, left, err := r.Day(principal, d, carry); n != 0 || left != 0 || api.Code(err) != api.ErrArg {
		t.Fatalf("%v.Day(%d, %d, %d) = %d, %d, %v", r, principal, d, carry, n, left, err)
	}
}

func wantNoMonth(t *testing.T, r yield.Rate, principal coin.Coin) {
	t.Helper()
	if n, err := r.Month(principal); n != 0 || api.Code(err) != api.ErrArg {
		t.Fatalf("%v.Month(%d) = %d, %v", r, principal, n, err)
	}
}

func day(t *testing.T, s string) date.Day {
	t.Helper()
	d, err := date.Read(s)
	if err != nil {
		t.Fatal(s, err)
	}
	return d
}

// P9.1: Right and Unit.

func TestRightAndUnit(t *testing.T) {
	if yield.Whole != 1000000 {
		t.Fatal(yield.Whole)
	}
	for b := range 256 {
		for _, p := range append([]uint32{api.MaxRate + 1, api.MaxRate + 2, 1 << 31, math.MaxUint32}, parts...) {
			r := yield.Rate{Parts: p, Basis: byte(b)}
			right, unit := p <= 1000000 && (b == 1 || b == 2), uint64(0)
			if right {
				unit = modelUnit(r)
			}
			if r.Right() != right || r.Unit() != unit {
				t.Fatalf("%v is right: %v, its unit %d", r, r.Right(), r.Unit())
			}
		}
	}
	if r := (yield.Rate{Basis: span.Actual}); r.Unit() != 365000000 {
		t.Fatal(r.Unit())
	}
	if r := (yield.Rate{Basis: span.Thirty}); r.Unit() != 360000000 {
		t.Fatal(r.Unit())
	}
}

// P9.1: Days.

func TestDaysAtTheEdges(t *testing.T) {
	for _, basis := range bases {
		for _, p := range parts {
			r := yield.Rate{Parts: p, Basis: basis}
			for _, principal := range principals {
				for _, days := range lengths {
					for _, carry := range carries(r) {
						wantDays(t, r, principal, days, carry)
					}
				}
			}
		}
	}
}

func TestDaysOfAnyRightArguments(t *testing.T) {
	g := rand.New(rand.NewSource(14))
	for k := range 200000 {
		r := yield.Rate{Parts: uint32(g.Intn(api.MaxRate + 1)), Basis: bases[k%2]}
		principal := coin.Coin(g.Int63n(api.MaxMoney+1) >> (k % 40))
		wantDays(t, r, principal, g.Intn(maxDays+1)>>(k%17), uint64(g.Int63n(int64(modelUnit(r)))))
	}
}

func TestDaysExamples(t *testing.T) {
	for _, x := range []struct {
		r         yield.Rate
		principal coin.Coin
		days      int
		carry     uint64
		n         coin.Coin
		left      uint64
	}{
		{yield.Rate{Parts: 365000, Basis: span.Actual}, 10000, 1, 0, 10, 0},
		{yield.Rate{Parts: 360000, Basis: span.Thirty}, 10000, 1, 0, 10, 0},
		{yield.Rate{Parts: 60000, Basis: span.Actual}, 120000, 1, 0, 19, 265000000},
		{yield.Rate{Parts: 60000, Basis: span.Actual}, 120000, 1, 265000000, 20, 165000000},
		{yield.Rate{Parts: 60000, Basis: span.Actual}, 120000, 365, 0, 7200, 0},
		{yield.Rate{Parts: 60000, Basis: span.Thirty}, 120000, 360, 0, 7200, 0},
		{yield.Rate{Parts: 1, Basis: span.Actual}, 1, 1, 364999998, 0, 364999999},
		{yield.Rate{Parts: 1, Basis: span.Actual}, 1, 1, 364999999, 1, 0},
		{yield.Rate{Parts: 1, Basis: span.Thirty}, 1, 1, 359999999, 1, 0},
		{yield.Rate{Parts: 60000, Basis: span.Actual}, 120000, 0, 7, 0, 7},
		{yield.Rate{Parts: 60000, Basis: span.Actual}, 0, maxDays, 7, 0, 7},
		{yield.Rate{Basis: span.Thirty}, api.MaxMoney, maxDays, 359999999, 0, 359999999},
		{yield.Rate{Parts: api.MaxRate, Basis: span.Actual}, api.MaxMoney, maxDays, 0, 273972602739726, 10000000},
		{yield.Rate{Parts: api.MaxRate, Basis: span.Actual}, api.MaxMoney, maxDays, 364999999, 273972602739727, 9999999},
		{yield.Rate{Parts: api.MaxRate, Basis: span.Thirty}, api.MaxMoney, maxDays, 0, 277777777777777, 280000000},
	} {
		if n, left, err := x.r.Days(x.principal, x.days, x.carry); n != x.n || left != x.left || err != nil {
			t.Fatalf("%v.Days(%d, %d, %d) = %d, %d, %v, want %d, %d", x.r, x.principal, x.days, x.carry, n, left, err, x.n, x.left)
		}
	}
}

func TestDaysOfWrongArguments(t *testing.T) {
	for _, r := range wrongRates {
		for _, days := range []int{0, 1, 30, maxDays, -1} {
			wantNoDays(t, r, 120000, days, 0)
			wantNoDays(t, r, 0, days, 0)
			wantNoDays(t, r, -1, days, 1)
		}
	}
	for _, basis := range bases {
		for _, p := range parts {
			r := yield.Rate{Parts: p, Basis: basis}
			for _, principal := range wrongPrincipals {
				wantNoDays(t, r, principal, 1, 0)
				wantNoDays(t, r, principal, 0, 0)
				wantNoDays(t, r, principal, maxDays, modelUnit(r)-1)
			}
			for _, days := range wrongLengths {
				wantNoDays(t, r, 120000, days, 0)
				wantNoDays(t, r, 0, days, 1)
				wantNoDays(t, r, api.MaxMoney, days, modelUnit(r)-1)
			}
			for _, carry := range wrongCarries(r) {
				wantNoDays(t, r, 120000, 1, carry)
				wantNoDays(t, r, 0, 0, carry)
				wantNoDays(t, r, api.MaxMoney, maxDays, carry)
			}
		}
	}
	// What may be carried by the one basis is too much by the other.
	wantNoDays(t, yield.Rate{Basis: span.Thirty}, 1, 1, 360000000)
	wantDays(t, yield.Rate{Basis: span.Actual}, 1, 1, 360000000)
}

// P9.1: Day.

func TestDayIsDaysOfOne(t *testing.T) {
	for _, from := range []date.Day{0, day(t, "1900-02-01"), day(t, "2023-01-01"), day(t, "2024-01-01"), last - 400} {
		for d := from; d < from+400; d++ {
			for _, basis := range bases {
				r := yield.Rate{Parts: 73421, Basis: basis}
				one, err := span.One(basis, d)
				if err != nil {
					t.Fatal(d, err)
				}
				carry := uint64(d) * 9973 % modelUnit(r)
				n, left, err := r.Day(987654321, d, carry)
				want, wantLeft := modelDays(r, 987654321, one, carry)
				if n != want || left != wantLeft || err != nil {
					t.Fatalf("%v.Day(987654321, %s, %d) = %d, %d, %v, want %d, %d", r, d.Text(), carry, n, left, err, want, wantLeft)
				}
			}
		}
	}
}

func TestDayExamples(t *testing.T) {
	actual, thirty := yield.Rate{Parts: 365000, Basis: span.Actual}, yield.Rate{Parts: 360000, Basis: span.Thirty}
	for _, x := range []struct {
		r    yield.Rate
		d    string
		n    coin.Coin
		left uint64
	}{
		{actual, "2023-02-28", 10, 5}, {actual, "2024-02-29", 10, 5}, {actual, "2024-01-31", 10, 5}, {actual, "0001-01-01", 10, 5}, {actual, "9999-12-30", 10, 5},
		{thirty, "2024-01-30", 10, 5}, {thirty, "2024-01-31", 0, 5}, {thirty, "2024-02-28", 10, 5}, {thirty, "2024-02-29", 20, 5}, {thirty, "2023-02-28", 30, 5}, {thirty, "2024-04-30", 10, 5}, {thirty, "0001-01-01", 10, 5}, {thirty, "9999-12-30", 10, 5},
	} {
		if n, left, err := x.r.Day(10000, day(t, x.d), 5); n != x.n || left != x.left || err != nil {
			t.Fatalf("%v.Day(10000, %s, 5) = %d, %d, %v, want %d, %d", x.r, x.d, n, left, err, x.n, x.left)
		}
	}
}

func TestDayOfWrongArguments(t *testing.T) {
	for _, r := range wrongRates {
		wantNoDay(t, r, 120000, 738000, 0)
		wantNoDay(t, r, 0, 0, 0)
		wantNoDay(t, r, -1, last, 1)
	}
	for _, basis := range bases {
		r := yield.Rate{Parts: 60000, Basis: basis}
		for _, d := range wrongDays {
			wantNoDay(t, r, 120000, d, 0)
			wantNoDay(t, r, 0, d, modelUnit(r)-1)
			wantNoDay(t, r, -1, d, 0)
		}
		for _, principal := range wrongPrincipals {
			wantNoDay(t, r, principal, 738000, 0)
			wantNoDay(t, r, principal, day(t, "2024-01-31"), 0) // of Thirty it adds nothing
		}
		for _, carry := range wrongCarries(r) {
			wantNoDay(t, r, 120000, 738000, carry)
			wantNoDay(t, r, 0, day(t, "2024-01-31"), carry)
		}
	}
}

// P9.1: Month.

func TestMonth(t *testing.T) {
	g := rand.New(rand.NewSource(15))
	for k := range 100000 {
		r := yield.Rate{Parts: uint32(g.Intn(api.MaxRate + 1)), Basis: bases[k%2]}
		wantMonth(t, r, coin.Coin(g.Int63n(api.MaxMoney+1)>>(k%40)))
	}
	for _, basis := range bases {
		for _, p := range parts {
			for _, principal := range principals {
				wantMonth(t, yield.Rate{Parts: p, Basis: basis}, principal)
			}
			for principal := range coin.Coin(2000) {
				wantMonth(t, yield.Rate{Parts: p, Basis: basis}, principal)
			}
		}
	}
}

func wantMonth(t *testing.T, r yield.Rate, principal coin.Coin) {
	t.Helper()
	if n, err := r.Month(principal); n != modelMonth(r, principal) || err != nil {
		t.Fatalf("%v.Month(%d) = %d, %v, want %d", r, principal, n, err, modelMonth(r, principal))
	}
}

func TestMonthExamples(t *testing.T) {
	for _, x := range []struct {
		parts        uint32
		principal, n coin.Coin
	}{
		{60000, 120000, 600},
		{60000, 100, 1}, // a half
		{60000, 99, 0},
		{60000, 299, 1},
		{60000, 300, 2}, // one and a half
		{60000, 301, 2},
		{1, 5999999, 0}, {1, 6000000, 1}, {1, 17999999, 1}, {1, 18000000, 2},
		{0, api.MaxMoney, 0},
		{60000, 0, 0},
		{1000000, 12, 1},
		{api.MaxRate, api.MaxMoney, 83333333333},
	} {
		for _, basis := range bases {
			if n, err := (yield.Rate{Parts: x.parts, Basis: basis}).Month(x.principal); n != x.n || err != nil {
				t.Fatalf("%d by %d: Month(%d) = %d, %v, want %d", x.parts, basis, x.principal, n, err, x.n)
			}
		}
	}
}

func TestMonthOfWrongArguments(t *testing.T) {
	for _, r := range wrongRates {
		for _, principal := range principals {
			wantNoMonth(t, r, principal)
		}
	}
	for _, basis := range bases {
		for _, p := range parts {
			for _, principal := range wrongPrincipals {
				wantNoMonth(t, yield.Rate{Parts: p, Basis: basis}, principal)
			}
		}
	}
}

// P9.2: day by day, or all at once.

func TestWhatIsCarriedOnAddsUp(t *testing.T) {
	g := rand.New(rand.NewSource(16))
	for k := range 300 {
		r := yield.Rate{Parts: uint32(g.Intn(api.MaxRate + 1)), Basis: bases[k%2]}
		principal := coin.Coin(g.Int63n(api.MaxMoney+1) >> (k % 40))
		wantAddsUp(t, r, principal, date.Day(g.Intn(api.MaxDay-1000)), 1+g.Intn(900), uint64(g.Int63n(int64(modelUnit(r)))))
	}
	for _, basis := range bases {
		for _, p := range parts {
			r := yield.Rate{Parts: p, Basis: basis}
			for _, principal := range principals {
				wantAddsUp(t, r, principal, day(t, "2023-12-15"), 120, modelUnit(r)-1)
				wantAddsUp(t, r, principal, 0, 62, 0)
				wantAddsUp(t, r, principal, last-40, 40, 1)
			}
		}
	}
}

// wantAddsUp goes day by day, n days from the day from on, and holds each step against all days so far at once.
func wantAddsUp(t *testing.T, r yield.Rate, principal coin.Coin, from date.Day, n int, first uint64) {
	t.Helper()
	sum, days, carry := coin.Coin(0), 0, first
	for d := from; d < from+date.Day(n); d++ {
		c, left, err := r.Day(principal, d, carry)
		if err != nil || left >= r.Unit() {
			t.Fatalf("%v.Day(%d, %s, %d) = %d, %d, %v", r, principal, d.Text(), carry, c, left, err)
		}
		one, err := span.One(r.Basis, d)
		if err != nil {
			t.Fatal(d, err)
		}
		sum, days, carry = sum+c, days+one, left
		all, left, err := r.Days(principal, days, first)
		if all != sum || left != carry || err != nil {
			t.Fatalf("%v of %d from %s on: day by day %d, %d, all at once %d, %d, %v", r, principal, from.Text(), sum, carry, all, left, err)
		}
	}
}

func TestWhatIsDoneWithARateLeavesIt(t *testing.T) {
	r := yield.Rate{Parts: 60000, Basis: span.Thirty}
	r.Right()
	r.Unit()
	r.Days(120000, 5, 6)
	r.Day(120000, 700000, 6)
	r.Month(120000)
	if r != (yield.Rate{Parts: 60000, Basis: span.Thirty}) {
		t.Fatal(r)
	}
}
