package ledger_test

import (
	"bytes"
	"errors"
	"math"
	"math/rand"
	"slices"
	"testing"

	"arrears/api"
	"arrears/chart"
	"arrears/coin"
	"arrears/date"
	"arrears/ledger"
)

const (
	most   = coin.Coin(math.MaxInt64)
	fewest = coin.Coin(math.MinInt64)
)

var (
	key   = chart.Key{Loan: 3, Day: 7, Kind: chart.Pay, Seq: 300}
	loans = []uint32{0, 1, 2, 255, 256, math.MaxUint32}
)

func entry(k chart.Key, legs ...chart.Leg) chart.Entry {
	return chart.Entry{Key: k, Legs: legs}
}

// plain is an entry of k: cash, and principal the other way.
func plain(k chart.Key, amount coin.Coin) chart.Entry {
	return entry(k, leg(chart.Cash, -amount), leg(chart.Principal, amount))
}

// of is a key of a loan.
func of(loan uint32, day date.Day, kind byte, seq uint32) chart.Key {
	return chart.Key{Loan: loan, Day: day, Kind: kind, Seq: seq}
}

func must(t *testing.T, errs ...error) {
	t.Helper()
	for _, err := range errs {
		if err != nil {
			t.Fatalf("error %d", api.Code(err))
		}
	}
}

func parsed(t *testing.T, p []byte) *ledger.Ledger {
	t.Helper()
	l, err := ledger.Parse(p)
	must(t, err)
	return l
}

func wantNoLedger(t *testing.T, p []byte) {
	t.Helper()
	if l, err := ledger.Parse(p); l != nil || api.Code(err) != api.ErrForm {
		t.Fatalf("Parse(%x) = %v, error %d", p, l, api.Code(err))
	}
}

// any ledgers, held against the model behind each call.

// anyKeys is a few keys, so that calls meet.
func anyKeys(g *rand.Rand) []chart.Key {
	l := make([]chart.Key, 1+g.Intn(7))
	for k := range l {
		l[k] = of(loans[g.Intn(len(loans))], date.Day(g.Intn(3)), byte(1+g.Intn(7)), uint32(g.Intn(3)))
	}
	return l
}

// anyEntry is an entry of k: mostly one that is Right, now and then of sums that go over.
func anyEntry(g *rand.Rand, k chart.Key) chart.Entry {
	accounts := g.Perm(9)[:2+g.Intn(3)]
	slices.Sort(accounts)
	n := coin.Coin(g.Intn(1000) - 500)
	switch g.Intn(4) {
	case 0:
		n = most - coin.Coin(g.Intn(2))
	case 1:
		n = -most + coin.Coin(g.Intn(2))
	case 2:
		n = coin.Coin(g.Uint64()) >> (1 + g.Intn(60))
	}
	e := entry(k)
	for _, a := range accounts {
		e.Legs = append(e.Legs, leg(byte(a+1), 0))
	}
	e.Legs[0].Amount, e.Legs[1].Amount = -n, n
	switch g.Intn(12) {
	case 0:
		e.Legs[0].Amount++ // doesn't balance
	case 1:
		e = entry(k, leg(1, fewest), leg(4, 1<<62), leg(8, 1<<62))
	case 2:
		e = entry(k, leg(1, -most), leg(2, -1), leg(3, most), leg(4, 1))
	}
	return e
}

func TestAnyLedgers(t *testing.T) {
	g := rand.New(rand.NewSource(23))
	told := map[api.Errno]int{}
	for range 300 {
		l, m, keys := ledger.New(), &model{}, anyKeys(g)
		for range 20 {
			k := keys[g.Intn(len(keys))]
			err, want := error(nil), api.OK
			if g.Intn(3) == 0 {
				err, want = l.Reverse(k), m.reverse(k)
				told[want+100]++
			} else {
				e := anyEntry(g, k)
				err, want = l.Post(e), m.post(e)
				told[want]++
			}
			wantErr(t, err, want, k.Loan)
			wantLike(t, l, m, keys)
		}
		wantBack(t, l, m, keys)
		wantBack(t, l.Copy(), m, keys)
	}
	for _, n := range []api.Errno{api.OK, api.ErrArg, api.ErrTwice, api.ErrOver, 100, 100 + api.ErrNone, 100 + api.ErrOver} {
		if told[n] < 20 {
			t.Fatalf("%d was told %d times", n, told[n])
		}
	}
}

// P14.1: Post, Reverse.

func TestPostReversePost(t *testing.T) {
	l, e := ledger.New(), plain(key, 100)
	must(t, l.Post(e), l.Reverse(key), l.Post(e))
	m := &model{lines: []ledger.Line{{Entry: e}, {Entry: plain(key, -100), Of: 1}, {Entry: e}}}
	wantLike(t, l, m, []chart.Key{key})
	if n := len(l.Loan(3)); n != 1 {
		t.Fatal(n)
	}
	must(t, l.Reverse(key), l.Post(plain(key, 5)), l.Reverse(key))
	for i, want := range []int{0, 1, 0, 3, 0, 5} {
		if x, _ := l.Line(i); x.Of != want {
			t.Fatalf("Line(%d) is of %d, want %d", i, x.Of, want)
		}
	}
	if l.Balance(3, chart.Cash) != 0 || len(l.Loan(3)) != 0 || !slices.Equal(l.Loans(), []uint32{3}) {
		t.Fatal("all is reversed")
	}
}

func TestPostOfWhatIsntRight(t *testing.T) {
	l := ledger.New()
	must(t, l.Post(plain(key, 100)))
	was := l.Bytes()
	for _, e := range []chart.Entry{
		{}, entry(key), entry(of(9, 7, 4, 1)), entry(key, leg(1, 1)), entry(key, leg(1, -100), leg(2, 99)), entry(key, leg(2, 1), leg(1, -1)), entry(key, leg(0, 0)), entry(key, leg(10, 0)), entry(key, leg(1, 1), leg(1, -1)),
		plain(of(9, -1, 4, 1), 1), plain(of(9, api.MaxDay+1, 4, 1), 1), plain(of(9, 7, 0, 1), 1), plain(of(9, 7, 8, 1), 1),
		entry(of(9, 7, 4, 1), leg(1, most), leg(2, 1), leg(3, fewest)),
		entry(of(9, 7, 4, 1), leg(1, 0), leg(2, 0), leg(3, 0), leg(4, 0), leg(5, 0), leg(6, 0), leg(7, 0), leg(8, 0), leg(9, 0)),
	} {
		wantErr(t, l.Post(e), api.ErrArg, 0) // of a key that is live, too
		if !bytes.Equal(l.Bytes(), was) || l.Len() != 1 || len(l.Loans()) != 1 {
			t.Fatalf("Post(%v) changed something", e)
		}
	}
}

func TestPostOfOneKeyTwice(t *testing.T) {
	l := ledger.New()
	must(t, l.Post(plain(key, most)))
	for _, e := range []chart.Entry{plain(key, most), plain(key, 1), plain(key, 0), entry(key, leg(9, 0))} { // whatever it has, and though a sum would be over
		err := l.Post(e)
		wantErr(t, err, api.ErrTwice, 3)
		if !errors.Is(err, api.ErrTwice) {
			t.Fatal(err)
		}
	}
	// Another key, if by one part alone.
	must(t, l.Post(plain(of(2, 7, 4, 300), 0)), l.Post(plain(of(3, 8, 4, 300), 0)), l.Post(plain(of(3, 7, 5, 300), 0)), l.Post(plain(of(3, 7, 4, 299), 0)))
	if l.Len() != 5 || len(l.Loan(3)) != 4 {
		t.Fatal(l.Len())
	}
}

func TestAnErrorIsOfItsLoan(t *testing.T) {
	for _, loan := range loans {
		l, k := ledger.New(), of(loan, 1, 4, 77)
		wantErr(t, l.Reverse(k), api.ErrNone, loan)
		must(t, l.Post(plain(k, most)))
		wantErr(t, l.Post(plain(k, 1)), api.ErrTwice, loan)
		wantErr(t, l.Post(plain(of(loan, 2, 4, 1), 1)), api.ErrOver, loan)
		wantErr(t, l.Reverse(of(loan, 1, 4, 78)), api.ErrNone, loan)
	}
}

// P14.1: ErrOver.

func TestBalanceOver(t *testing.T) {
	for _, x := range []struct {
		first, then coin.Coin
		want        api.Errno
	}{
		{most, 0, api.OK}, {most, 1, api.ErrOver}, {most - 1, 1, api.OK}, {most - 1, 2, api.ErrOver}, {most, -1, api.OK}, {most, most, api.ErrOver}, {most, -most, api.OK},
		{-most, 0, api.OK}, {-most, -1, api.ErrOver}, {-most + 1, -1, api.OK}, {-most, 1, api.OK}, {1, most, api.ErrOver},
	} {
		l := ledger.New()
		must(t, l.Post(plain(of(3, 1, 4, 1), x.first)))
		was := l.Bytes()
		wantErr(t, l.Post(plain(of(3, 1, 4, 2), x.then)), x.want, 3)
		if x.want != api.OK && (!bytes.Equal(l.Bytes(), was) || l.Balance(3, 1) != -x.first || l.Control(2) != x.first) {
			t.Fatalf("%v changed something", x)
		}
		if x.want == api.OK && l.Balance(3, chart.Principal) != x.first+x.then {
			t.Fatalf("%v: %d", x, l.Balance(3, chart.Principal))
		}
	}
}

func TestTheLeastBalance(t *testing.T) {
	l := ledger.New()
	must(t, l.Post(plain(of(3, 1, 4, 1), most)), l.Post(entry(of(3, 1, 4, 2), leg(1, -1), leg(9, 1))))
	if l.Balance(3, 1) != fewest || l.Control(1) != fewest {
		t.Fatal(l.Balance(3, 1))
	}
	wantErr(t, l.Post(entry(of(3, 1, 4, 3), leg(1, -1), leg(8, 1))), api.ErrOver, 3)
	must(t, l.Post(entry(of(3, 1, 4, 3), leg(1, 1), leg(8, -1))))
}

// Each leg is asked: a later one that is over takes nothing of an earlier one with it.
func TestALaterLegOver(t *testing.T) {
	l := ledger.New()
	must(t, l.Post(entry(of(3, 1, 4, 1), leg(6, -most), leg(9, most))))
	wantErr(t, l.Post(entry(of(3, 1, 4, 2), leg(1, -5), leg(9, 5))), api.ErrOver, 3)
	wantErr(t, l.Post(entry(of(4, 1, 4, 2), leg(1, -5), leg(9, 5))), api.ErrOver, 4)
	if l.Balance(3, 1) != 0 || l.Control(1) != 0 || l.Balance(4, 1) != 0 || l.Len() != 1 || !slices.Equal(l.Loans(), []uint32{3}) {
		t.Fatal("an earlier leg stayed")
	}
	must(t, l.Post(entry(of(3, 1, 4, 2), leg(1, -5), leg(8, 5)))) // its key isn't taken
}

func TestControlOver(t *testing.T) {
	l := ledger.New()
	must(t, l.Post(plain(of(1, 1, 4, 1), most-10)), l.Post(plain(of(2, 1, 4, 1), 10)))
	wantErr(t, l.Post(plain(of(5, 1, 4, 1), 1)), api.ErrOver, 5) // no balance would be over
	if len(l.Loans()) != 2 || l.Balance(5, 1) != 0 {
		t.Fatal(l.Loans())
	}
	must(t, l.Post(plain(of(5, 1, 4, 1), -1)), l.Post(plain(of(2, 1, 4, 2), 1)))
	if l.Control(chart.Principal) != most || l.Control(chart.Cash) != -most {
		t.Fatal(l.Control(chart.Principal))
	}
	wantErr(t, l.Reverse(of(5, 1, 4, 1)), api.ErrOver, 5)
}

func TestBalanceOverWhereTheControlIsnt(t *testing.T) {
	l := ledger.New()
	must(t, l.Post(plain(of(1, 1, 4, 1), most)), l.Post(plain(of(2, 1, 4, 1), -most)))
	wantErr(t, l.Post(plain(of(1, 1, 4, 2), 1)), api.ErrOver, 1)
	must(t, l.Post(plain(of(2, 1, 4, 2), 1)))
}

func TestReverseOver(t *testing.T) {
	// Turned's error.
	for _, legs := range [][]chart.Leg{{leg(1, fewest), leg(4, 1<<62), leg(8, 1<<62)}, {leg(2, most), leg(5, fewest), leg(6, 1)}} {
		l := ledger.New()
		must(t, l.Post(entry(key, legs...)))
		was := l.Bytes()
		wantErr(t, l.Reverse(key), api.ErrOver, 3)
		if e, ok := l.Live(key); !ok || !sameEntry(e, entry(key, legs...)) || !bytes.Equal(l.Bytes(), was) {
			t.Fatal(e)
		}
	}
	// A balance, in a ledger whose controls are nothing.
	l := ledger.New()
	must(t, l.Post(plain(of(3, 1, 4, 1), 10)), l.Post(plain(of(3, 1, 4, 2), -10)), l.Post(plain(of(3, 1, 4, 3), -most)), l.Post(plain(of(4, 1, 4, 3), most)))
	was := l.Bytes()
	wantErr(t, l.Reverse(of(3, 1, 4, 1)), api.ErrOver, 3)
	if _, ok := l.Live(of(3, 1, 4, 1)); !ok || !bytes.Equal(l.Bytes(), was) || l.Balance(3, 2) != -most {
		t.Fatal("changed")
	}
	must(t, l.Reverse(of(3, 1, 4, 2)), l.Reverse(of(3, 1, 4, 1)), l.Reverse(of(3, 1, 4, 3)))
}

func TestReverseOfNone(t *testing.T) {
	l := ledger.New()
	must(t, l.Post(plain(key, 100)), l.Post(plain(of(3, 7, 4, 1), 1)), l.Reverse(of(3, 7, 4, 1)))
	was := l.Bytes()
	for _, k := range []chart.Key{{}, of(2, 7, 4, 300), of(3, 8, 4, 300), of(3, 7, 5, 300), of(3, 7, 4, 301), of(3, 7, 4, 1), of(3, -1, 4, 300), of(3, 7, 0, 300), of(3, 7, 255, 300)} {
		err := l.Reverse(k)
		wantErr(t, err, api.ErrNone, k.Loan)
		if !errors.Is(err, api.ErrNone) || !bytes.Equal(l.Bytes(), was) {
			t.Fatal(k, err)
		}
	}
}

// An entry whose sum goes down to the least on the way is Right; turned, it isn't, but there is no error for that.
func TestReverseIntoWhatIsntRight(t *testing.T) {
	l, m := ledger.New(), &model{}
	e := entry(key, leg(1, -most), leg(2, -1), leg(3, most), leg(4, 1))
	must(t, l.Post(e), l.Reverse(key), l.Post(e), l.Post(plain(of(3, 8, 4, 1), -5)))
	m.post(e)
	m.reverse(key)
	m.post(e)
	m.post(plain(of(3, 8, 4, 1), -5))
	wantLike(t, l, m, []chart.Key{key})
	if x, ok := l.Line(1); !ok || x.Of != 1 || x.Entry.Right() || x.Entry.Of(1) != most {
		t.Fatal(x)
	}
	wantBack(t, l, m, []chart.Key{key}) // its Bytes are an empty Text
	wantNoLedger(t, replaced(t, m.bytes(), "\x00\x01\x01", "\x01\x01\x00\x01\x01"))
}

// P14.2: what a ledger tells.

func TestLoanIsByKeys(t *testing.T) {
	l, keys := ledger.New(), []chart.Key{}
	for _, loan := range loans {
		for _, day := range []date.Day{0, 1, 255, 256, api.MaxDay} {
			for kind := byte(1); kind <= 7; kind++ {
				for _, seq := range []uint32{0, 1, 300, math.MaxUint32} {
					keys = append(keys, of(loan, day, kind, seq))
				}
			}
		}
	}
	per := len(keys) / len(loans)
	for _, k := range rand.New(rand.NewSource(24)).Perm(len(keys)) {
		must(t, l.Post(plain(keys[k], coin.Coin(k))))
	}
	for n, loan := range loans {
		for range 3 {
			got := l.Loan(loan)
			if len(got) != per {
				t.Fatal(len(got))
			}
			for k, e := range got {
				if !sameEntry(e, plain(keys[n*per+k], coin.Coin(n*per+k))) {
					t.Fatalf("Loan(%d): %v at %d", loan, e, k)
				}
			}
		}
	}
	if got := l.Loan(77); len(got) != 0 {
		t.Fatal(got)
	}
	if got := l.Loans(); !slices.Equal(got, loans) {
		t.Fatal(got)
	}
}

func TestANewLedger(t *testing.T) {
	l := ledger.New()
	wantLike(t, l, &model{}, []chart.Key{{}, key})
	if p := l.Bytes(); string(p) != "\x00" {
		t.Fatalf("%x", p)
	}
	wantBack(t, l, &model{}, nil)
	wantErr(t, l.Reverse(key), api.ErrNone, 3)
	if !ledger.Same(l, ledger.New()) || ledger.New() == l {
		t.Fatal("New")
	}
	must(t, l.Post(plain(key, 1)))
	if ledger.New().Len() != 0 {
		t.Fatal("shared")
	}
}

func TestANilLedger(t *testing.T) {
	var l *ledger.Ledger
	for _, err := range []error{l.Post(plain(key, 1)), l.Post(chart.Entry{}), l.Reverse(key)} { // whatever else applies
		if api.Code(err) != api.ErrNone {
			t.Fatal(api.Code(err))
		}
	}
	x, a := l.Line(0)
	e, b := l.Live(key)
	if a || b || !sameLine(x, ledger.Line{}) || !sameEntry(e, chart.Entry{}) {
		t.Fatal(x, e)
	}
	if l.Len() != 0 || len(l.Loan(3)) != 0 || len(l.Loans()) != 0 || l.Balance(3, 1) != 0 || l.Control(1) != 0 || l.Copy() != nil || len(l.Bytes()) != 0 {
		t.Fatal("nil")
	}
	if !ledger.Same(l, nil) || ledger.Same(l, ledger.New()) || ledger.Same(ledger.New(), l) {
		t.Fatal("Same")
	}
}

func TestSame(t *testing.T) {
	a := plain(of(1, 1, 4, 1), 100)
	b := plain(of(2, 1, 4, 1), 100)
	l := []*ledger.Ledger{}
	for _, do := range []func(l *ledger.Ledger){
		func(l *ledger.Ledger) {},
		func(l *ledger.Ledger) { must(t, l.Post(a)) },
		func(l *ledger.Ledger) { must(t, l.Post(b)) },
		func(l *ledger.Ledger) { must(t, l.Post(plain(a.Key, 101))) },
		func(l *ledger.Ledger) { must(t, l.Post(a), l.Post(b)) },
		func(l *ledger.Ledger) { must(t, l.Post(b), l.Post(a)) }, // in another order
		func(l *ledger.Ledger) { must(t, l.Post(a), l.Reverse(a.Key)) },
		func(l *ledger.Ledger) { must(t, l.Post(a), l.Reverse(a.Key), l.Post(a)) },
		func(l *ledger.Ledger) { must(t, l.Post(plain(a.Key, 0)), l.Reverse(a.Key)) },
		func(l *ledger.Ledger) {
			must(t, l.Post(plain(a.Key, 0)), l.Reverse(a.Key), l.Post(plain(a.Key, 0)), l.Reverse(a.Key))
		},
		func(l *ledger.Ledger) { must(t, l.Post(entry(a.Key, leg(1, -100), leg(3, 100)))) },
	} {
		x := ledger.New()
		do(x)
		l = append(l, x)
	}
	for n, x := range l {
		for k, y := range l {
			if ledger.Same(x, y) != (n == k) || ledger.Same(x.Copy(), y) != (n == k) {
				t.Fatalf("%d and %d", n, k)
			}
		}
	}
}

func TestCopy(t *testing.T) {
	l, m := ledger.New(), &model{}
	keys := []chart.Key{of(1, 1, 4, 1), of(1, 1, 4, 2), of(2, 1, 4, 1), of(9, 1, 4, 1)}
	for _, k := range keys[:3] {
		must(t, l.Post(plain(k, 100)))
		m.post(plain(k, 100))
	}
	must(t, l.Reverse(keys[1]))
	m.reverse(keys[1])
	c := l.Copy()
	cm := &model{lines: slices.Clone(m.lines)}
	wantLike(t, c, m, keys)
	// Each goes its own way.
	must(t, l.Reverse(keys[0]), l.Post(plain(keys[1], 5)), l.Post(plain(keys[3], 6)))
	m.reverse(keys[0])
	m.post(plain(keys[1], 5))
	m.post(plain(keys[3], 6))
	wantLike(t, c, cm, keys)
	must(t, c.Post(plain(keys[3], 70)), c.Reverse(keys[2]))
	cm.post(plain(keys[3], 70))
	cm.reverse(keys[2])
	wantLike(t, c, cm, keys)
	wantLike(t, l, m, keys)
	wantBack(t, c, cm, keys)
	wantBack(t, l, m, keys)
	// Of an empty one, too.
	e := ledger.New().Copy()
	must(t, e.Post(plain(key, 1)))
	if e.Len() != 1 {
		t.Fatal(e.Len())
	}
}

// Memory.

func spoil(legs []chart.Leg) {
	legs = legs[:cap(legs)]
	for k := range legs {
		legs[k] = leg(99, 99)
	}
}

func TestWhatIsHandedInIsNotKept(t *testing.T) {
	l, m := ledger.New(), &model{}
	room := []chart.Leg{leg(1, -100), leg(2, 60), leg(3, 40), leg(9, 9), leg(8, 8)}
	was := slices.Clone(room)
	e := entry(key, room[:3]...)
	m.post(e)
	must(t, l.Post(e))
	if !slices.Equal(room, was) || len(e.Legs) != 3 {
		t.Fatal("changed", room)
	}
	spoil(room)
	wantLike(t, l, m, []chart.Key{key})
	must(t, l.Reverse(key))
	m.reverse(key)
	wantLike(t, l, m, []chart.Key{key})
}

func TestWhatIsToldIsNewMemory(t *testing.T) {
	l, m := ledger.New(), &model{}
	for n := range coin.Coin(5) {
		e := entry(of(3, date.Day(n), 4, 1), leg(1, -n), leg(2, n-1), leg(3, 1))
		must(t, l.Post(e))
		m.post(e)
	}
	must(t, l.Reverse(of(3, 0, 4, 1)))
	m.reverse(of(3, 0, 4, 1))
	k := of(3, 2, 4, 1)
	keys := []chart.Key{k, of(3, 0, 4, 1)}
	first, last := l.Loan(3), l.Loan(3)
	loans, p := l.Loans(), l.Bytes()
	for i := range l.Len() {
		x, _ := l.Line(i)
		spoil(x.Entry.Legs)
	}
	e, _ := l.Live(k)
	spoil(e.Legs)
	spoil(first[0].Legs) // its neighbours stay
	for n, e := range first[1:] {
		if !sameEntry(e, m.loan(3)[n+1]) {
			t.Fatal(e)
		}
	}
	for _, e := range first {
		spoil(e.Legs)
	}
	clear(first[:cap(first)])
	clear(loans[:cap(loans)])
	if !slices.EqualFunc(last, m.loan(3), sameEntry) {
		t.Fatal(last)
	}
	back := parsed(t, p)
	clear(p[:cap(p)])
	wantLike(t, l, m, keys)
	wantBack(t, l, m, keys)
	wantBack(t, back, m, keys)
	c := l.Copy()
	x, _ := c.Line(1)
	spoil(x.Entry.Legs)
	wantLike(t, l, m, keys)
	wantLike(t, c, m, keys)
}

func TestTellingChangesNothing(t *testing.T) {
	l, m := ledger.New(), &model{}
	must(t, l.Post(plain(key, 100)), l.Reverse(key), l.Post(plain(of(4, 1, 4, 1), 7)))
	m.post(plain(key, 100))
	m.reverse(key)
	m.post(plain(of(4, 1, 4, 1), 7))
	for range 3 {
		l.Balance(77, 1) // of loans and keys that there aren't
		l.Loan(77)
		l.Live(of(77, 1, 1, 1))
		l.Reverse(of(77, 1, 1, 1))
		wantLike(t, l, m, []chart.Key{key, of(4, 1, 4, 1)})
	}
}

// P14.2: Bytes and Parse.

// replaced is p with the one piece of it that is from as to.
func replaced(t *testing.T, p []byte, from, to string) []byte {
	t.Helper()
	if bytes.Count(p, []byte(from)) != 1 {
		t.Fatalf("%x in %x", from, p)
	}
	return bytes.Replace(p, []byte(from), []byte(to), 1)
}

// written is lines as Bytes would write them, were they any ledger's.
func written(lines ...ledger.Line) []byte {
	return (&model{lines: lines}).bytes()
}

func TestBytesExample(t *testing.T) {
	l, k := ledger.New(), of(3, 7, 4, 300)
	must(t, l.Post(plain(k, 100)), l.Reverse(k), l.Post(plain(of(0, 0, 1, 0), 0)))
	const posted = "\x01\x13\x01\x03\x01\x07\x01\x04\x02\x01\x2c\x01\x02\x01\x01\x81\x63\x01\x02\x01\x64\x00"
	const turned = "\x01\x13\x01\x03\x01\x07\x01\x04\x02\x01\x2c\x01\x02\x01\x01\x01\x64\x01\x02\x81\x63\x01\x01"
	const third = "\x01\x0d\x00\x00\x01\x01\x00\x01\x02\x01\x01\x00\x01\x02\x00\x00"
	want := "\x01\x03" + posted + turned + third
	if got := l.Bytes(); string(got) != want {
		t.Fatalf("%x, want %x", got, want)
	}
	if back := parsed(t, []byte(want)); !ledger.Same(back, l) {
		t.Fatal("Parse")
	}
}

func TestBytesAndParseOfManyLines(t *testing.T) {
	l := ledger.New()
	for n := range 3000 {
		k := of(uint32(n%7), date.Day(n), 2, 0)
		must(t, l.Post(plain(k, coin.Coin(n))))
		if n%3 == 0 {
			must(t, l.Reverse(k))
		}
	}
	back := parsed(t, l.Bytes())
	if !ledger.Same(back, l) || !bytes.Equal(back.Bytes(), l.Bytes()) || back.Control(2) != l.Control(2) || len(back.Loan(1)) != len(l.Loan(1)) {
		t.Fatal("Parse")
	}
	x, _ := l.Line(401) // places above a byte, too
	if y, ok := back.Line(401); !ok || !sameLine(x, y) {
		t.Fatal(x, y)
	}
}

// What is parsed goes on as what it was.
func TestWhatIsParsedGoesOn(t *testing.T) {
	l, keys, m := ledger.New(), []chart.Key{key, of(3, 8, 4, 1), of(4, 1, 1, 0)}, &model{}
	do := func(e chart.Entry) {
		must(t, l.Post(e))
		m.post(e)
	}
	do(plain(keys[0], 100))
	do(plain(keys[1], 200))
	do(plain(keys[2], most-300))
	l = parsed(t, l.Bytes())
	wantErr(t, l.Post(plain(keys[0], 1)), api.ErrTwice, 3)
	wantErr(t, l.Post(plain(of(3, 9, 4, 1), 1)), api.ErrOver, 3)
	must(t, l.Reverse(keys[1]))
	m.reverse(keys[1])
	l = parsed(t, l.Bytes())
	wantErr(t, l.Reverse(keys[1]), api.ErrNone, 3)
	do(plain(keys[1], 50))
	wantBack(t, l, m, keys)
}

func TestParseOfPartsAndMore(t *testing.T) {
	wantNoLedger(t, nil)
	wantNoLedger(t, []byte{})
	l := ledger.New()
	must(t, l.Post(plain(key, 100)), l.Reverse(key), l.Post(plain(of(4, 1, 1, 0), 7)))
	p := l.Bytes()
	for n := range p {
		wantNoLedger(t, p[:n])
	}
	for _, more := range []string{"\x00", "\x00\x00", "\x01\x00", "\xff", string(p)} {
		wantNoLedger(t, append(bytes.Clone(p), more...))
		wantNoLedger(t, append([]byte{0}, more...))
	}
}

func TestParseTakesWhatBytesMakesAlone(t *testing.T) {
	l := ledger.New()
	must(t, l.Post(plain(key, 100)), l.Post(plain(of(3, 7, 4, 301), 100)), l.Reverse(key), l.Post(plain(key, 100)), l.Reverse(key), l.Post(plain(of(4, 1, 1, 0), 0)), l.Reverse(of(4, 1, 1, 0)))
	p := l.Bytes()
	for k := range p {
		for b := range 256 {
			q := bytes.Clone(p)
			q[k] = byte(b)
			x, err := ledger.Parse(q)
			if err != nil && (x != nil || api.Code(err) != api.ErrForm) {
				t.Fatalf("Parse(%x) = %v, error %d", q, x, api.Code(err))
			}
			if err == nil && !bytes.Equal(x.Bytes(), q) {
				t.Fatalf("Parse(%x): whose bytes are %x", q, x.Bytes())
			}
		}
	}
}

func TestParseOfOtherCounts(t *testing.T) {
	e := ledger.Line{Entry: plain(key, 100)}
	p := written(e)
	if string(p[:2]) != "\x01\x01" || parsed(t, p).Len() != 1 {
		t.Fatalf("%x", p)
	}
	for _, count := range []string{
		"\x00", "\x01\x02", "\x01\xff", "\x02\x01\x01", "\x08\xff\xff\xff\xff\xff\xff\xff\xff", "\x08\x80\x00\x00\x00\x00\x00\x00\x00", "\x08\x7f\xff\xff\xff\xff\xff\xff\xff", "\x05\x01\x00\x00\x00\x01", // of more than there are
		"\x02\x00\x01", "\x01\x00", "\x81\x01", "\x09\x01", "\xff", // of no form
	} {
		wantNoLedger(t, append([]byte(count), p[2:]...))
		if count != "\x00" {
			wantNoLedger(t, []byte(count))
		}
	}
	if l := parsed(t, []byte("\x00")); l.Len() != 0 {
		t.Fatal(l.Len())
	}
}

// Lines of which each is well said, but which Post and Reverse wouldn't have added in that order.
func TestParseOfLinesThatNoneAdds(t *testing.T) {
	type lines = []ledger.Line
	other := of(3, 7, 4, 301)
	a, b, turned := plain(key, 100), plain(other, 100), plain(key, -100)
	put := func(e chart.Entry, of int) ledger.Line { return ledger.Line{Entry: e, Of: of} }
	for _, l := range []lines{
		{put(a, 0), put(turned, 1)}, {put(a, 0), put(b, 0), put(turned, 1)}, {put(a, 0), put(turned, 1), put(a, 0), put(turned, 3)}, {put(a, 0), put(turned, 1), put(turned, 0), put(a, 3)},
	} {
		if !bytes.Equal(parsed(t, written(l...)).Bytes(), written(l...)) {
			t.Fatal(l)
		}
	}
	for _, l := range []lines{
		{put(a, 0), put(a, 0)}, {put(a, 0), put(turned, 0)}, {put(a, 0), put(b, 0), put(plain(key, 1), 0)}, // a key twice
		{put(a, 0), put(turned, 1), put(a, 0), put(a, 0)},
		{put(a, 1)}, {put(turned, 1)}, {put(turned, 1), put(a, 0)}, {put(a, 0), put(turned, 2)}, {put(a, 0), put(turned, 3), put(b, 0)}, {put(a, 0), put(turned, math.MaxInt)}, // of itself, or of what isn't there yet
		{put(a, 0), put(a, 1)}, {put(a, 0), put(plain(key, -99), 1)}, {put(a, 0), put(plain(other, -100), 1)}, {put(a, 0), put(plain(of(4, 7, 4, 300), -100), 1)}, {put(a, 0), put(entry(key, leg(1, 100), leg(3, -100)), 1)}, // another entry than its own, turned
		{put(a, 0), put(entry(key), 1)}, {put(a, 0), put(entry(key, leg(1, 1)), 1)}, // an empty text, for one that is Right
		{put(a, 0), put(b, 0), put(turned, 2)}, {put(a, 0), put(b, 0), put(plain(other, -100), 1)},
		{put(a, 0), put(turned, 1), put(turned, 1)}, {put(a, 0), put(turned, 1), put(a, 1)}, {put(a, 0), put(turned, 1), put(a, 2)}, {put(a, 0), put(turned, 1), put(turned, 2)}, // what isn't live
		{put(a, 0), put(turned, 1), put(a, 0), put(turned, 1)}, {put(a, 0), put(turned, 1), put(a, 0), put(turned, 2)}, {put(a, 0), put(turned, 1), put(a, 0), put(a, 2)}, // of one that isn't, by a key that is
		{put(entry(key), 0)}, {put(entry(key, leg(1, 5)), 0)}, {put(a, 0), put(entry(other), 0)}, {put(chart.Entry{}, 0)}, // an empty text
		{put(plain(key, most), 0), put(plain(other, 1), 0)}, {put(plain(key, most), 0), put(plain(of(4, 1, 1, 1), 1), 0)}, // a balance, or a control, over
		{put(plain(key, 1), 0), put(plain(other, -1), 0), put(plain(of(3, 8, 1, 1), -most), 0), put(plain(key, -1), 1)},
		{put(entry(key, leg(1, fewest), leg(4, 1<<62), leg(8, 1<<62)), 0), put(entry(key), 1)}, // what can't be turned
	} {
		wantNoLedger(t, written(l...))
	}
}

func TestParseOfOtherForms(t *testing.T) {
	text := string(plain(of(3, 7, 4, 5), 1).Bytes())
	n := string(rune(len(text)))
	parsed(t, []byte("\x01\x01\x01"+n+text+"\x00"))
	for _, s := range []string{
		"\x01\x01\x02\x00" + n + text + "\x00", "\x01\x01\x81" + n + text + "\x00", // a length of no form
		"\x01\x01\x01" + n + text + "\x01\x00", "\x01\x01\x01" + n + text + "\x80", // an Of of no form
		"\x01\x01\x01" + n + text, "\x01\x01" + text + "\x00",
		"\x01\x01\x01" + n + text + "\x08\xff\xff\xff\xff\xff\xff\xff\xff", "\x01\x01\x01" + n + text + "\x08\x80\x00\x00\x00\x00\x00\x00\x00", "\x01\x01\x01" + n + text + "\x08\x80\x00\x00\x00\x00\x00\x00\x01",
		"\x01\x01\x01" + string(rune(len(text)+1)) + text + "\x00\x00", // bytes behind the entry
		"\x01\x01\x08\xff\xff\xff\xff\xff\xff\xff\xff" + text + "\x00", "\x01\x01\x08\x7f\xff\xff\xff\xff\xff\xff\xff" + text + "\x00",
		"\x01\x01\x00\x00", "\x01\x02\x00\x00\x00\x00",
	} {
		wantNoLedger(t, []byte(s))
	}
}
