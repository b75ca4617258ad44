package wide_test

import (
	"math"
	"math/big"
	"math/rand"
	"testing"

	"arrears/api"
	"arrears/wide"
)

const most = math.MaxUint64

// edges are where carries begin and end.
var edges = []uint64{0, 1, 2, 3, 6, 7, 10, 99, 100, 1<<31 - 1, 1 << 31, 1<<32 - 1, 1 << 32, 1<<32 + 1, 1<<62 + 1, 1<<63 - 1, 1 << 63, 1<<63 + 1, most - 1, most}

// numbers are the edges, and some of all lengths.
func numbers() []uint64 {
	r := rand.New(rand.NewSource(3))
	l := append([]uint64{}, edges...)
	for k := range 40 {
		l = append(l, r.Uint64()>>(k%64))
	}
	return l
}

func wides() []wide.Wide {
	r := rand.New(rand.NewSource(4))
	l := []wide.Wide{}
	for _, n := range edges {
		l = append(l, wide.Wide{Lo: n}, wide.Wide{Hi: n}, wide.Wide{Hi: n, Lo: most}, wide.Wide{Hi: most, Lo: n}, wide.Wide{Hi: n, Lo: n})
	}
	for k := range 60 {
		l = append(l, wide.Wide{Hi: r.Uint64() >> k, Lo: r.Uint64()})
	}
	return l
}

func bigOf(n uint64) *big.Int {
	return new(big.Int).SetUint64(n)
}

func bigOfWide(w wide.Wide) *big.Int {
	n := new(big.Int).Lsh(bigOf(w.Hi), 64)
	return n.Add(n, bigOf(w.Lo))
}

func wantWide(t *testing.T, what string, w wide.Wide, err error, want *big.Int) {
	t.Helper()
	if want.BitLen() > 128 {
		if api.Code(err) != api.ErrOver || w != (wide.Wide{}) {
			t.Fatalf("%s = %x, error %d, where it is over", what, w, api.Code(err))
		}
		return
	}
	if err != nil || bigOfWide(w).Cmp(want) != 0 {
		t.Fatalf("%s = %x, %v, want %x", what, w, err, want)
	}
}

func wantSmall(t *testing.T, what string, n uint64, err error, want *big.Int) {
	t.Helper()
	if want.BitLen() > 64 {
		if api.Code(err) != api.ErrOver || n != 0 {
			t.Fatalf("%s = %d, error %d, where it is over", what, n, api.Code(err))
		}
		return
	}
	if err != nil || bigOf(n).Cmp(want) != 0 {
		t.Fatalf("%s = %d, %v, want %d", what, n, err, want)
	}
}

// P3.1: products, sums, order.

func TestMul(t *testing.T) {
	for _, a := range numbers() {
		for _, b := range numbers() {
			wantWide(t, "Mul", wide.Mul(a, b), nil, new(big.Int).Mul(bigOf(a), bigOf(b)))
		}
	}
	if w := wide.Mul(most, most); w != (wide.Wide{Hi: most - 1, Lo: 1}) {
		t.Fatalf("the greatest product: %x", w)
	}
}

func TestAdd(t *testing.T) {
	for _, w := range wides() {
		for _, n := range numbers() {
			s, err := w.Add(n)
			wantWide(t, "Add", s, err, new(big.Int).Add(bigOfWide(w), bigOf(n)))
		}
	}
}

func TestPlus(t *testing.T) {
	for _, w := range wides() {
		for _, v := range wides() {
			s, err := w.Plus(v)
			wantWide(t, "Plus", s, err, new(big.Int).Add(bigOfWide(w), bigOfWide(v)))
		}
	}
}

func TestSumsAtTheirEdge(t *testing.T) {
	top := wide.Wide{Hi: most, Lo: most}
	if s, err := top.Add(0); s != top || err != nil {
		t.Fatalf("%x %v", s, err)
	}
	if s, err := (wide.Wide{Hi: most, Lo: most - 5}).Add(5); s != top || err != nil {
		t.Fatalf("%x %v", s, err)
	}
	for _, n := range []uint64{1, 2, most} {
		if s, err := top.Add(n); s != (wide.Wide{}) || api.Code(err) != api.ErrOver {
			t.Fatalf("%x %v", s, err)
		}
	}
	if s, err := (wide.Wide{Hi: 1 << 63}).Plus(wide.Wide{Hi: 1 << 63}); s != (wide.Wide{}) || api.Code(err) != api.ErrOver {
		t.Fatalf("%x %v", s, err)
	}
}

func TestLess(t *testing.T) {
	for _, w := range wides() {
		for _, v := range wides() {
			if got, want := w.Less(v), bigOfWide(w).Cmp(bigOfWide(v)) < 0; got != want {
				t.Fatalf("%x below %x: %v", w, v, got)
			}
		}
	}
}

// P3.1: Div and Small.

func TestDiv(t *testing.T) {
	for _, w := range wides() {
		for _, n := range numbers() {
			q, left, err := w.Div(n)
			if n == 0 {
				if q != (wide.Wide{}) || left != 0 || api.Code(err) != api.ErrArg {
					t.Fatalf("%x by 0: %x, %d, %v", w, q, left, err)
				}
				continue
			}
			wantQ, wantLeft := new(big.Int).QuoRem(bigOfWide(w), bigOf(n), new(big.Int))
			wantWide(t, "Div", q, err, wantQ)
			if bigOf(left).Cmp(wantLeft) != 0 {
				t.Fatalf("%x by %d: %d is left, want %d", w, n, left, wantLeft)
			}
		}
	}
}

func TestSmall(t *testing.T) {
	for _, w := range wides() {
		n, err := w.Small()
		wantSmall(t, "Small", n, err, bigOfWide(w))
	}
}

func TestWhatIsDoneWithAWideLeavesIt(t *testing.T) {
	w := wide.Wide{Hi: 3, Lo: 5}
	w.Add(7)
	w.Plus(wide.Wide{Hi: 1, Lo: most})
	w.Div(2)
	w.Small()
	if w != (wide.Wide{Hi: 3, Lo: 5}) {
		t.Fatalf("%x", w)
	}
}

// P3.2: Scale and Round.

func TestScaleAndRound(t *testing.T) {
	for _, a := range numbers() {
		for _, b := range numbers() {
			for _, c := range edges {
				wantScale(t, a, b, c)
				wantRound(t, a, b, c)
			}
		}
	}
}

func wantScale(t *testing.T, a, b, c uint64) {
	t.Helper()
	n, left, err := wide.Scale(a, b, c)
	if c == 0 {
		if n != 0 || left != 0 || api.Code(err) != api.ErrArg {
			t.Fatalf("Scale(%d, %d, 0) = %d, %d, %v", a, b, n, left, err)
		}
		return
	}
	want, wantLeft := new(big.Int).QuoRem(new(big.Int).Mul(bigOf(a), bigOf(b)), bigOf(c), new(big.Int))
	wantSmall(t, "Scale", n, err, want)
	if err != nil {
		wantLeft.SetUint64(0)
	}
	if bigOf(left).Cmp(wantLeft) != 0 {
		t.Fatalf("Scale(%d, %d, %d): %d is left, want %d", a, b, c, left, wantLeft)
	}
}

func wantRound(t *testing.T, a, b, c uint64) {
	t.Helper()
	n, err := wide.Round(a, b, c)
	if c == 0 {
		if n != 0 || api.Code(err) != api.ErrArg {
			t.Fatalf("Round(%d, %d, 0) = %d, %v", a, b, n, err)
		}
		return
	}
	twice := new(big.Int).Mul(new(big.Int).Mul(bigOf(a), bigOf(b)), bigOf(2))
	twice.Add(twice, bigOf(c))
	wantSmall(t, "Round", n, err, twice.Quo(twice, new(big.Int).Mul(bigOf(c), bigOf(2))))
}

func TestScaleExamples(t *testing.T) {
	for _, x := range []struct{ a, b, c, n, left uint64 }{
		{1 << 63, 6, 4, 3 << 62, 0},
		{10, 10, 7, 14, 2},
		{0, most, 5, 0, 0},
		{most, most, most, most, 0},
		{most, 1, 1, most, 0},
		{most, 2, 3, most / 3 * 2, 0},
		{most, most - 1, most, most - 1, 0},
	} {
		if n, left, err := wide.Scale(x.a, x.b, x.c); n != x.n || left != x.left || err != nil {
			t.Fatalf("Scale(%d, %d, %d) = %d, %d, %v", x.a, x.b, x.c, n, left, err)
		}
	}
}

func TestScaleIsOver(t *testing.T) {
	for _, x := range [][3]uint64{{1 << 63, 2, 1}, {1 << 32, 1 << 32, 1}, {most, most, most - 1}, {most, most, 1}} {
		if n, left, err := wide.Scale(x[0], x[1], x[2]); n != 0 || left != 0 || api.Code(err) != api.ErrOver {
			t.Fatalf("Scale%v = %d, %d, %v", x, n, left, err)
		}
		if n, err := wide.Round(x[0], x[1], x[2]); n != 0 || api.Code(err) != api.ErrOver {
			t.Fatalf("Round%v = %d, %v", x, n, err)
		}
	}
	if _, _, err := wide.Scale(most, most, 0); api.Code(err) != api.ErrArg {
		t.Fatalf("by 0 it is ErrArg, however great: %v", err)
	}
}

func TestRoundExamples(t *testing.T) {
	for _, x := range []struct{ a, b, c, n uint64 }{
		{10, 10, 8, 13}, // 12 and a half
		{10, 10, 7, 14},
		{1, 1, 2, 1},
		{1, 1, 3, 0},
		{2, 1, 3, 1},
		{1, 49, 100, 0},
		{1, 50, 100, 1},
		{1, 51, 100, 1},
		{most, 1, 1, most},
		{most - 1, 1, most, 1},
		{most / 2, 1, most, 0},
		{most/2 + 1, 1, most, 1},
	} {
		if n, err := wide.Round(x.a, x.b, x.c); n != x.n || err != nil {
			t.Fatalf("Round(%d, %d, %d) = %d, %v, want %d", x.a, x.b, x.c, n, err, x.n)
		}
	}
}

func TestRoundUpIsOver(t *testing.T) {
	a, b := uint64(31), uint64(1190112520884487201) // their product is 2^65-1
	if wide.Mul(a, b) != (wide.Wide{Hi: 1, Lo: most}) {
		t.Fatalf("%x", wide.Mul(a, b))
	}
	if n, left, err := wide.Scale(a, b, 2); n != most || left != 1 || err != nil {
		t.Fatalf("Scale: %d, %d, %v", n, left, err)
	}
	if n, err := wide.Round(a, b, 2); n != 0 || api.Code(err) != api.ErrOver {
		t.Fatalf("Round of 2^64 less a half: %d, %v", n, err)
	}
	if n, err := wide.Round(most, 3, 3); n != most || err != nil {
		t.Fatalf("Round of 2^64-1: %d, %v", n, err)
	}
}
