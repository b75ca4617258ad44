package level_test

import (
	"math"
	"math/rand"
	"slices"
	"testing"

	"arrears/api"
	"arrears/coin"
	"arrears/level"
	"arrears/span"
	"arrears/yield"
)

var (
	bases      = []byte{span.Actual, span.Thirty}
	parts      = []uint32{0, 1, 2, 11, 12, 59999, 60000, 120000, 365000, 500001, 999999, api.MaxRate}
	principals = []coin.Coin{1, 2, 3, 5, 6, 7, 11, 12, 99, 100, 101, 479, 480, 481, 1000, 120000, 123456789, api.MaxMoney/2 + 1, api.MaxMoney - 1, api.MaxMoney}
	months     = []int{1, 2, 3, 5, 12, 13, 60, 359, 360, api.MaxTerms - 1, api.MaxTerms}

	wrongRates      = []yield.Rate{{}, {Parts: 60000}, {Basis: 3}, {Parts: 60000, Basis: 255}, {Parts: api.MaxRate + 1, Basis: span.Actual}, {Parts: api.MaxRate + 1, Basis: span.Thirty}, {Parts: math.MaxUint32, Basis: span.Actual}, {Parts: math.MaxUint32}}
	wrongPrincipals = []coin.Coin{0, -1, -2, -1000, api.MaxMoney + 1, api.MaxMoney + 2, -api.MaxMoney, math.MaxInt64, math.MaxInt64 - 479, math.MinInt64, math.MinInt64 + 1}
	wrongMonths     = []int{0, -1, -2, -12, -480, api.MaxTerms + 1, api.MaxTerms + 2, 1<<32 + 12, -1<<32 + 12, math.MaxInt32, math.MinInt32, math.MaxInt, math.MinInt}
	wrongKinds      = []byte{0, 3, 4, 7, 127, 128, 254, 255}
)

// modelMonth is a month from a right principal on, word by word; what it leaves may be more than there was.
func modelMonth(principal coin.Coin, r yield.Rate, payment coin.Coin) level.Row {
	interest := (principal*coin.Coin(r.Parts) + 6000000) / 12000000
	off := min(payment, principal+interest) - interest
	return level.Row{Interest: interest, Principal: off, Left: principal - off}
}

// modelLeft is what n months with the payment leave; with a payment not above the interest, it is no less than there was.
func modelLeft(principal coin.Coin, r yield.Rate, n int, payment coin.Coin) coin.Coin {
	for range n {
		w := modelMonth(principal, r, payment)
		if w.Principal <= 0 {
			return principal
		}
		principal = w.Left
		if principal == 0 {
			return 0
		}
	}
	return principal
}

// modelRows is Rows with a payment in each month but the last.
func modelRows(principal coin.Coin, r yield.Rate, n int, payment coin.Coin) []level.Row {
	l := []level.Row{}
	for range n - 1 {
		l = append(l, modelMonth(principal, r, payment))
		principal = l[len(l)-1].Left
	}
	return append(l, modelMonth(principal, r, math.MaxInt64))
}

func payment(t *testing.T, principal coin.Coin, r yield.Rate, n int) coin.Coin {
	t.Helper()
	p, err := level.Payment(principal, r, n)
	if err != nil {
		t.Fatalf("Payment(%d, %v, %d): %v", principal, r, n, err)
	}
	return p
}

func rows(t *testing.T, kind byte, principal coin.Coin, r yield.Rate, n int) []level.Row {
	t.Helper()
	l, err := level.Rows(kind, principal, r, n)
	if err != nil || len(l) != n {
		t.Fatalf("Rows(%d, %d, %v, %d): %d of them, %v", kind, principal, r, n, len(l), err)
	}
	return l
}

// eachRight goes through right arguments: all edges, and any.
func eachRight(do func(principal coin.Coin, r yield.Rate, n int)) {
	for _, principal := range principals {
		for _, p := range parts {
			for _, n := range months {
				do(principal, yield.Rate{Parts: p, Basis: bases[n%2]}, n)
			}
		}
	}
	g := rand.New(rand.NewSource(17))
	for k := range 1000 {
		principal := 1 + coin.Coin(g.Int63n(api.MaxMoney)>>(k%40))
		do(principal, yield.Rate{Parts: uint32(g.Intn(api.MaxRate + 1)), Basis: bases[k%2]}, 1+g.Intn(api.MaxTerms))
	}
}

// eachWrong goes through arguments of which one at least isn't right.
func eachWrong(do func(principal coin.Coin, r yield.Rate, n int)) {
	right := yield.Rate{Parts: 60000, Basis: span.Actual}
	for _, r := range wrongRates {
		do(120000, r, 12)
		do(1, r, 1)
		do(0, r, 0)
	}
	for _, principal := range wrongPrincipals {
		do(principal, right, 12)
		do(principal, right, 1)
		do(principal, yield.Rate{Basis: span.Thirty}, api.MaxTerms)
		do(principal, yield.Rate{Parts: api.MaxRate, Basis: span.Thirty}, api.MaxTerms)
		do(principal, yield.Rate{}, -1)
	}
	for _, n := range wrongMonths {
		do(120000, right, n)
		do(1, yield.Rate{Basis: span.Thirty}, n)
		do(api.MaxMoney, yield.Rate{Parts: api.MaxRate, Basis: span.Thirty}, n)
		do(-1, right, n)
	}
}

// P10.1: Payment.

func TestPaymentIsTheLeastThatLeavesNothing(t *testing.T) {
	eachRight(func(principal coin.Coin, r yield.Rate, n int) {
		p := payment(t, principal, r, n)
		if p < 1 || modelLeft(principal, r, n, p) != 0 {
			t.Fatalf("Payment(%d, %v, %d) = %d: it leaves %d", principal, r, n, p, modelLeft(principal, r, n, p))
		}
		if p > 1 && modelLeft(principal, r, n, p-1) == 0 {
			t.Fatalf("Payment(%d, %v, %d) = %d: one less leaves nothing, too", principal, r, n, p)
		}
	})
}

func TestPaymentOfLittleIsTheFirstThatLeavesNothing(t *testing.T) {
	for _, p := range parts {
		r := yield.Rate{Parts: p, Basis: span.Thirty}
		for principal := coin.Coin(1); principal <= 150; principal++ {
			for n := 1; n <= 40; n++ {
				want := coin.Coin(1)
				for modelLeft(principal, r, n, want) != 0 {
					want++
				}
				if got := payment(t, principal, r, n); got != want {
					t.Fatalf("Payment(%d, %v, %d) = %d, want %d", principal, r, n, got, want)
				}
			}
		}
	}
}

func TestPaymentExamples(t *testing.T) {
	for _, x := range []struct {
		principal coin.Coin
		parts     uint32
		n         int
		want      coin.Coin
	}{
		{1000, 0, 3, 334},
		{1000, 120000, 2, 508},
		{120000, 60000, 12, 10328},
		{120000, 60000, 1, 120600},
		{10000000, 50000, 360, 53683},
		{1, 0, 1, 1}, {1, 0, 480, 1}, {1, api.MaxRate, 480, 1},
		{480, 0, 480, 1}, {481, 0, 480, 2}, {479, 0, 480, 1},
		{5, api.MaxRate, 480, 1}, // a month has no interest of so little
		{6, api.MaxRate, 480, 2}, // half of one goes up: 1 is the interest alone
		{6, api.MaxRate, 1, 7},
		{100, 60000, 1, 101}, {99, 60000, 1, 99},
		{api.MaxMoney, 0, 1, api.MaxMoney},
		{api.MaxMoney, 0, 480, 2083333334},
		{api.MaxMoney, api.MaxRate, 1, 1083333333333},
	} {
		for _, basis := range bases {
			if got := payment(t, x.principal, yield.Rate{Parts: x.parts, Basis: basis}, x.n); got != x.want {
				t.Fatalf("Payment(%d, %d by %d, %d) = %d, want %d", x.principal, x.parts, basis, x.n, got, x.want)
			}
		}
	}
}

func TestPaymentOfWrongArguments(t *testing.T) {
	eachWrong(func(principal coin.Coin, r yield.Rate, n int) {
		if p, err := level.Payment(principal, r, n); p != 0 || api.Code(err) != api.ErrArg {
			t.Fatalf("Payment(%d, %v, %d) = %d, %v", principal, r, n, p, err)
		}
	})
}

// P10.2: Rows.

func TestLevelRows(t *testing.T) {
	eachRight(func(principal coin.Coin, r yield.Rate, n int) {
		p := payment(t, principal, r, n)
		l := rows(t, level.Level, principal, r, n)
		if !slices.Equal(l, modelRows(principal, r, n, p)) {
			t.Fatalf("Level of %d, %v, %d: %v, want %v", principal, r, n, l, modelRows(principal, r, n, p))
		}
		for k, w := range l {
			if w.Left > 0 && w.Pay() != p || w.Pay() > p {
				t.Fatalf("Level of %d, %v, %d: %d is paid in month %d, the payment is %d", principal, r, n, w.Pay(), k+1, p)
			}
		}
		wantAllGoesOff(t, l, principal)
	})
}

func TestOnlyRows(t *testing.T) {
	eachRight(func(principal coin.Coin, r yield.Rate, n int) {
		interest := modelMonth(principal, r, 0).Interest
		l := rows(t, level.Only, principal, r, n)
		for k, w := range l {
			want := level.Row{Interest: interest, Left: principal}
			if k == n-1 {
				want = level.Row{Interest: interest, Principal: principal}
			}
			if w != want {
				t.Fatalf("Only of %d, %v, %d: month %d is %v, want %v", principal, r, n, k+1, w, want)
			}
		}
		wantAllGoesOff(t, l, principal)
	})
}

// wantAllGoesOff asks that each row goes on from what the one ahead of it leaves, and that the last one leaves nothing.
func wantAllGoesOff(t *testing.T, l []level.Row, principal coin.Coin) {
	t.Helper()
	left := principal
	for k, w := range l {
		if w.Interest < 0 || w.Principal < 0 || w.Left < 0 || w.Principal+w.Left != left {
			t.Fatalf("%d is left, and month %d is %v", left, k+1, w)
		}
		left = w.Left
	}
	if left != 0 {
		t.Fatalf("%v: %d is left of %d", l, left, principal)
	}
}

func TestRowsExamples(t *testing.T) {
	free, hundredth := yield.Rate{Basis: span.Actual}, yield.Rate{Parts: 120000, Basis: span.Thirty}
	for _, x := range []struct {
		kind      byte
		principal coin.Coin
		r         yield.Rate
		want      []level.Row
	}{
		{level.Level, 1000, free, []level.Row{{0, 334, 666}, {0, 334, 332}, {0, 332, 0}}},
		{level.Level, 1000, hundredth, []level.Row{{10, 498, 502}, {5, 502, 0}}},
		{level.Level, 1000, hundredth, []level.Row{{10, 1000, 0}}},
		{level.Level, 1, free, []level.Row{{0, 1, 0}, {0, 0, 0}, {0, 0, 0}}}, // all is paid ahead of the last month
		{level.Level, 9, free, []level.Row{{0, 3, 6}, {0, 3, 3}, {0, 3, 0}}},
		{level.Level, 6, free, []level.Row{{0, 2, 4}, {0, 2, 2}, {0, 2, 0}, {0, 0, 0}}},
		{level.Only, 1000, hundredth, []level.Row{{10, 0, 1000}, {10, 0, 1000}, {10, 1000, 0}}},
		{level.Only, 1000, hundredth, []level.Row{{10, 1000, 0}}},
		{level.Only, 1000, free, []level.Row{{0, 0, 1000}, {0, 1000, 0}}},
		{level.Only, 49, hundredth, []level.Row{{0, 0, 49}, {0, 49, 0}}},
		{level.Only, 50, hundredth, []level.Row{{1, 0, 50}, {1, 50, 0}}},
	} {
		if l := rows(t, x.kind, x.principal, x.r, len(x.want)); !slices.Equal(l, x.want) {
			t.Fatalf("Rows(%d, %d, %v, %d) = %v, want %v", x.kind, x.principal, x.r, len(x.want), l, x.want)
		}
	}
}

func wantNoRows(t *testing.T, kind byte, principal coin.Coin, r yield.Rate, n int) {
	t.Helper()
	if l, err := level.Rows(kind, principal, r, n); len(l) != 0 || api.Code(err) != api.ErrArg {
		t.Fatalf("Rows(%d, %d, %v, %d) = %v, %v", kind, principal, r, n, l, err)
	}
}

func TestRowsOfWrongArguments(t *testing.T) {
	eachWrong(func(principal coin.Coin, r yield.Rate, n int) {
		for _, kind := range append([]byte{level.Level, level.Only}, wrongKinds...) {
			wantNoRows(t, kind, principal, r, n)
		}
	})
	for _, kind := range wrongKinds {
		for _, n := range months {
			wantNoRows(t, kind, 120000, yield.Rate{Parts: 60000, Basis: span.Actual}, n)
		}
	}
}

func TestRowsAreNewMemory(t *testing.T) {
	for _, kind := range []byte{level.Level, level.Only} {
		r := yield.Rate{Parts: 60000, Basis: span.Thirty}
		first := rows(t, kind, 120000, r, 12)
		second := rows(t, kind, 120000, r, 12)
		want := slices.Clone(second)
		clear(first[:cap(first)])
		if !slices.Equal(second, want) {
			t.Fatal(second)
		}
	}
}

// P10.2: Pay and Sums.

func TestPay(t *testing.T) {
	for _, x := range []struct {
		w    level.Row
		want coin.Coin
	}{
		{level.Row{}, 0},
		{level.Row{Interest: 10}, 10},
		{level.Row{Principal: 20}, 20},
		{level.Row{Left: 30}, 0},
		{level.Row{Interest: 10, Principal: 20, Left: 30}, 30},
		{level.Row{Interest: 83333333333, Principal: api.MaxMoney}, 1083333333333},
		{level.Row{Interest: -5, Principal: 3, Left: -1}, -2},
		{level.Row{Interest: math.MaxInt64, Principal: math.MinInt64}, -1},
	} {
		w := x.w
		if got := w.Pay(); got != x.want || w != x.w {
			t.Fatalf("%v.Pay() = %d, want %d", x.w, got, x.want)
		}
	}
}

func TestSums(t *testing.T) {
	for _, x := range []struct {
		l    []level.Row
		want []coin.Coin
	}{
		{nil, nil},
		{[]level.Row{}, nil},
		{[]level.Row{{Interest: 1, Principal: 2, Left: 4}}, []coin.Coin{3}},
		{[]level.Row{{Interest: 10, Left: 1000}, {Interest: 10, Left: 1000}, {Interest: 10, Principal: 1000}}, []coin.Coin{10, 20, 1030}},
		{[]level.Row{{}, {Interest: 5}, {}, {Principal: 6}, {}}, []coin.Coin{0, 5, 5, 11, 11}},
		{[]level.Row{{Principal: 7}, {Interest: -9}, {Principal: 1}}, []coin.Coin{7, -2, -1}},
	} {
		given := slices.Clone(x.l)
		got := level.Sums(given)
		if !slices.Equal(got, x.want) {
			t.Fatalf("Sums(%v) = %v, want %v", x.l, got, x.want)
		}
		clear(got[:cap(got)])
		if !slices.Equal(given, x.l) || !slices.Equal(level.Sums(given), x.want) {
			t.Fatalf("Sums shares or changes what it is handed: %v", given)
		}
	}
}

func TestSumsOfRows(t *testing.T) {
	eachRight(func(principal coin.Coin, r yield.Rate, n int) {
		for _, kind := range []byte{level.Level, level.Only} {
			l := rows(t, kind, principal, r, n)
			sums, sum := level.Sums(l), coin.Coin(0)
			if len(sums) != n {
				t.Fatalf("%d sums of %d rows", len(sums), n)
			}
			for k, w := range l {
				sum += w.Interest + w.Principal
				if sums[k] != sum {
					t.Fatalf("kind %d of %d, %v, %d: sum %d is %d, want %d", kind, principal, r, n, k, sums[k], sum)
				}
			}
		}
	})
}

// P10.2: Name and Kind.

func TestNameAndKind(t *testing.T) {
	if level.Level != 1 || level.Only != 2 {
		t.Fatal(level.Level, level.Only)
	}
	for n := range 256 {
		want := map[int]string{1: "level", 2: "only"}[n]
		if got := level.Name(byte(n)); got != want {
			t.Fatalf("Name(%d) = %q, want %q", n, got, want)
		}
		if want != "" && level.Kind(want) != byte(n) {
			t.Fatalf("Kind(%q) = %d, want %d", want, level.Kind(want), n)
		}
	}
	for _, s := range []string{"", " ", "Level", "ONLY", "levels", "onl", "level ", " only", "level\n", "only\x00", "1", "2", "actual", "thirty", "levelonly"} {
		if got := level.Kind(s); got != 0 {
			t.Fatalf("Kind(%q) = %d", s, got)
		}
	}
}
