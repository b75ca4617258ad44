package coin_test

import (
	"math"
	"math/big"
	"math/rand"
	"strings"
	"testing"

	"arrears/api"
	"arrears/coin"
)

const (
	most   = coin.Coin(math.MaxInt64)
	fewest = coin.Coin(math.MinInt64)
)

// coins are the edges, and some of all lengths.
func coins() []coin.Coin {
	l := []coin.Coin{0, 1, -1, 2, -2, 9, 10, 99, 100, 101, -99, -100, -101, api.MaxMoney - 1, api.MaxMoney, api.MaxMoney + 1, most - 1, most, fewest, fewest + 1, most / 2, most/2 + 1, most/2 + 2, fewest / 2, fewest/2 - 1}
	r := rand.New(rand.NewSource(5))
	for k := range 60 {
		l = append(l, coin.Coin(int64(r.Uint64())>>k))
	}
	return l
}

func bigOf(a coin.Coin) *big.Int {
	return big.NewInt(int64(a))
}

func wantCoin(t *testing.T, what string, a coin.Coin, err error, want *big.Int) {
	t.Helper()
	if !want.IsInt64() {
		if a != 0 || api.Code(err) != api.ErrOver {
			t.Fatalf("%s = %d, error %d, where %d is over", what, a, api.Code(err), want)
		}
		return
	}
	if err != nil || int64(a) != want.Int64() {
		t.Fatalf("%s = %d, %v, want %d", what, a, err, want)
	}
}

func wantCode(t *testing.T, what string, a coin.Coin, err error, want api.Errno) {
	t.Helper()
	if a != 0 || api.Code(err) != want {
		t.Fatalf("%s = %d, error %d, want error %d", what, a, api.Code(err), want)
	}
}

// P4.1: Add, Sub, Neg, Sum.

func TestAddAndSub(t *testing.T) {
	for _, a := range coins() {
		for _, b := range coins() {
			s, err := a.Add(b)
			wantCoin(t, "Add", s, err, new(big.Int).Add(bigOf(a), bigOf(b)))
			d, err := a.Sub(b)
			wantCoin(t, "Sub", d, err, new(big.Int).Sub(bigOf(a), bigOf(b)))
		}
	}
}

func TestAddAndSubAtTheirEdges(t *testing.T) {
	for _, x := range []struct{ a, b, sum coin.Coin }{{most, 0, most}, {most - 1, 1, most}, {most, fewest, -1}, {fewest, 0, fewest}, {fewest + 1, -1, fewest}} {
		if s, err := x.a.Add(x.b); s != x.sum || err != nil {
			t.Fatalf("%d and %d: %d, %v", x.a, x.b, s, err)
		}
		if s, err := x.sum.Sub(x.b); s != x.a || err != nil {
			t.Fatalf("%d without %d: %d, %v", x.sum, x.b, s, err)
		}
	}
	s, err := most.Add(1)
	wantCode(t, "the greatest and 1", s, err, api.ErrOver)
	s, err = fewest.Add(-1)
	wantCode(t, "the least and -1", s, err, api.ErrOver)
	s, err = fewest.Sub(1)
	wantCode(t, "the least without 1", s, err, api.ErrOver)
	s, err = most.Sub(-1)
	wantCode(t, "the greatest without -1", s, err, api.ErrOver)
	s, err = coin.Coin(0).Sub(fewest)
	wantCode(t, "0 without the least", s, err, api.ErrOver)
	if s, err = coin.Coin(-1).Sub(fewest); s != most || err != nil {
		t.Fatalf("-1 without the least: %d, %v", s, err)
	}
}

func TestNeg(t *testing.T) {
	for _, a := range coins() {
		n, err := a.Neg()
		wantCoin(t, "Neg", n, err, new(big.Int).Neg(bigOf(a)))
	}
	n, err := fewest.Neg()
	wantCode(t, "the least one's opposite", n, err, api.ErrOver)
}

func TestSum(t *testing.T) {
	for _, x := range []struct {
		l   []coin.Coin
		sum coin.Coin
	}{
		{nil, 0},
		{[]coin.Coin{}, 0},
		{[]coin.Coin{-7}, -7},
		{[]coin.Coin{1, 2, -10}, -7},
		{[]coin.Coin{most, fewest, 1}, 0},
		{[]coin.Coin{most, -5, 5}, most},
		{[]coin.Coin{fewest, 1, -1}, fewest},
	} {
		if s, err := coin.Sum(x.l...); s != x.sum || err != nil {
			t.Fatalf("Sum(%v) = %d, %v", x.l, s, err)
		}
	}
}

func TestSumGoesOneByOne(t *testing.T) {
	for _, l := range [][]coin.Coin{{most, 1}, {fewest, -1}, {most, 1, -1}, {fewest, -1, 1}, {1, most, fewest}, {most, most, fewest, fewest}, {5, most, -10}} {
		s, err := coin.Sum(l...)
		wantCode(t, "Sum", s, err, api.ErrOver)
	}
	l := []coin.Coin{most, -10, 5}
	if s, err := coin.Sum(l...); s != most-5 || err != nil || l[0] != most || l[1] != -10 || l[2] != 5 {
		t.Fatalf("%d, %v, %v", s, err, l)
	}
}

func TestSumAgainstAModel(t *testing.T) {
	r := rand.New(rand.NewSource(6))
	all := coins()
	for range 3000 {
		var l []coin.Coin
		want := new(big.Int)
		for range r.Intn(6) {
			a := all[r.Intn(len(all))]
			l = append(l, a)
			if want.IsInt64() {
				want.Add(want, bigOf(a))
			}
		}
		s, err := coin.Sum(l...)
		wantCoin(t, "Sum", s, err, want)
	}
}

// P4.1: Least and Right.

func TestLeast(t *testing.T) {
	for _, a := range coins() {
		for _, b := range coins() {
			want := a
			if b < a {
				want = b
			}
			if a.Least(b) != want {
				t.Fatalf("the lesser of %d and %d: %d", a, b, a.Least(b))
			}
		}
	}
}

func TestRight(t *testing.T) {
	for a, want := range map[coin.Coin]bool{0: true, 1: true, 1000000000000: true, 1000000000001: false, -1: false, most: false, fewest: false} {
		if a.Right() != want {
			t.Fatalf("%d is right: %v", a, a.Right())
		}
	}
}

// P4.2: Text and Read.

func TestTextAndBack(t *testing.T) {
	for a, want := range map[coin.Coin]string{
		0: "0.00", 1: "0.01", 9: "0.09", 10: "0.10", 99: "0.99", 100: "1.00", 101: "1.01", 999: "9.99", 1000: "10.00", 10005: "100.05", 123456: "1234.56",
		-1: "-0.01", -5: "-0.05", -10: "-0.10", -99: "-0.99", -100: "-1.00", -123456: "-1234.56", 1000000000000: "10000000000.00",
		most: "92233720368547758.07", fewest: "-92233720368547758.08",
	} {
		if a.Text() != want {
			t.Fatalf("%d is told %q, want %q", a, a.Text(), want)
		}
		if b, err := coin.Read(want); b != a || err != nil {
			t.Fatalf("Read(%q) = %d, %v", want, b, err)
		}
	}
	for _, a := range coins() {
		if b, err := coin.Read(a.Text()); b != a || err != nil {
			t.Fatalf("%d, told %q, is read %d, %v", a, a.Text(), b, err)
		}
	}
}

func TestReadOfNoSuchText(t *testing.T) {
	for _, s := range []string{
		"", "-", ".", "-.", "0", "-0", "5", "100", "-5", "1.", "1.5", "1.505", "1.5.0", "1.2.34", "1..00", ".50", "-.50", "..50",
		"00.50", "01.50", "-01.50", "000.00", "-0.00", "-00.00", "+1.00", "+0.00", "--1.00", "-+1.00", "1.-5", "1.+5", "1.0-", "1-.00",
		" 1.00", "1.00 ", "1. 0", "1 .00", "1.00\n", "\t1.00", "1,00", "1_0.00", "1.0_", "0x1.00", "1e2.00", "1.e2", "a.bc", "1.0a", "a1.00", "NaN", "Inf", "-Inf",
		"1.00.", "1\x00.00", "1.0\x00", "\xff.00", "1.\xff\xff", "\u0661.\u0660\u0660", "1.\u0660", "1\uff0e00", "\u22121.00", "1.\u0660\u0660",
		"1:.00", ":.00", "1.0:", "1.:0", "1/.00", "/.00", "1.0/", "1.000", "12345678901234567890123", "9223372036854775807", "99999999999999999999.9", "99999999999999999999.999", "099999999999999999999.99", "+99999999999999999999.99", "99999999999999999999.9x",
		strings.Repeat("9", 1000), strings.Repeat("9", 1000) + ".0", strings.Repeat("0", 1000) + ".00", strings.Repeat(".", 1000), strings.Repeat("-", 1000) + "1.00",
	} {
		a, err := coin.Read(s)
		wantCode(t, "Read("+s+")", a, err, api.ErrText)
	}
}

func TestReadOfWhatIsOver(t *testing.T) {
	for _, s := range []string{
		"92233720368547758.08", "-92233720368547758.09", "92233720368547758.10", "92233720368547759.00", "184467440737095516.15", "184467440737095516.16", "184467440737095516.17", "-184467440737095516.16",
		"99999999999999999999.99", "-99999999999999999999.99", strings.Repeat("9", 1000) + ".99", "-1" + strings.Repeat("0", 1000) + ".00",
	} {
		a, err := coin.Read(s)
		wantCode(t, "Read("+s+")", a, err, api.ErrOver)
	}
}

// TestReadAgainstAModel reads texts of few signs: only what Text tells is read.
func TestReadAgainstAModel(t *testing.T) {
	told := map[string]coin.Coin{}
	for a := coin.Coin(-9999); a <= 9999; a++ {
		told[a.Text()] = a
	}
	var try func(s string)
	try = func(s string) {
		a, err := coin.Read(s)
		if want, ok := told[s]; ok {
			if a != want || err != nil {
				t.Fatalf("Read(%q) = %d, %v", s, a, err)
			}
		} else {
			wantCode(t, "Read("+s+")", a, err, api.ErrText)
		}
		if len(s) < 5 {
			for _, c := range "-.019" {
				try(s + string(c))
			}
		}
	}
	try("")
}
