package chart_test

import (
	"bytes"
	"encoding/binary"
	"math"
	"math/big"
	"math/rand"
	"slices"
	"sort"
	"testing"

	"arrears/api"
	"arrears/chart"
	"arrears/coin"
	"arrears/date"
)

const (
	most   = coin.Coin(math.MaxInt64)
	fewest = coin.Coin(math.MinInt64)
)

var (
	key     = chart.Key{Loan: 3, Day: 7, Kind: chart.Pay, Seq: 300}
	amounts = []coin.Coin{0, 1, -1, 2, 50, -50, 127, 128, 255, 256, -128, -129, -255, -256, -257, api.MaxMoney, -api.MaxMoney, most, most - 1, fewest, fewest + 1, 1 << 62, -1 << 62}
	keys    = eachKey()
)

// eachKey is keys that may be, of edges alone.
func eachKey() []chart.Key {
	l := []chart.Key{}
	for _, loan := range []uint32{0, 1, 255, 256, math.MaxInt32, math.MaxUint32} {
		for _, d := range []date.Day{0, 1, 255, 256, api.MaxDay - 1, api.MaxDay} {
			for kind := byte(1); kind <= 7; kind++ {
				for _, seq := range []uint32{0, 1, 300, 1 << 31, math.MaxUint32} {
					l = append(l, chart.Key{Loan: loan, Day: d, Kind: kind, Seq: seq})
				}
			}
		}
	}
	return l
}

func leg(account byte, amount coin.Coin) chart.Leg {
	return chart.Leg{Account: account, Amount: amount}
}

func entry(legs ...chart.Leg) chart.Entry {
	return chart.Entry{Key: key, Legs: legs}
}

// rightLegs is legs that may be: named ones, and any.
func rightLegs() [][]chart.Leg {
	l := [][]chart.Leg{
		{leg(1, 0)}, {leg(9, 0)}, {leg(1, -100), leg(2, 100)}, {leg(8, 1), leg(9, -1)}, {leg(1, 50), leg(3, -50)}, {leg(1, 0), leg(2, 0), leg(3, 0)},
		{leg(1, most), leg(2, -most)}, {leg(1, -most), leg(9, most)}, {leg(1, fewest), leg(2, most), leg(3, 1)}, {leg(1, most), leg(2, fewest), leg(3, 1)}, {leg(1, -1), leg(2, -most), leg(5, most), leg(6, 1)},
		{leg(1, 1), leg(2, 2), leg(3, 3), leg(4, 4), leg(5, 5), leg(6, 6), leg(7, 7), leg(8, -28)},
		{leg(2, 1), leg(3, -2), leg(4, 3), leg(5, -4), leg(6, 5), leg(7, -6), leg(8, 7), leg(9, -4)},
	}
	g := rand.New(rand.NewSource(21))
	for k := range 400 {
		accounts := g.Perm(9)[:1+g.Intn(8)]
		sort.Ints(accounts)
		legs, sum := []chart.Leg{}, coin.Coin(0)
		for _, a := range accounts[1:] {
			n := coin.Coin(int64(g.Uint64())>>3) >> (k % 61)
			legs = append(legs, leg(byte(a+1), n/8))
			sum += n / 8
		}
		l = append(l, slices.Insert(legs, 0, leg(byte(accounts[0]+1), -sum)))
	}
	return l
}

// wrongEntries is what may not be: each fault alone, and some of them.
func wrongEntries() []chart.Entry {
	l := []chart.Entry{
		{}, entry(), entry([]chart.Leg{}...), entry(leg(1, 1)), entry(leg(1, -1)), entry(leg(1, -100), leg(2, 99)), entry(leg(1, -100), leg(2, 101)), entry(leg(1, 49), leg(3, -50)), entry(leg(1, 1), leg(2, 1)), entry(leg(1, most)), entry(leg(1, fewest)),
		entry(leg(0, 0)), entry(leg(10, 0)), entry(leg(255, 0)), entry(leg(0, 1), leg(1, -1)), entry(leg(9, 1), leg(10, -1)), entry(leg(1, 1), leg(2, 1), leg(128, -2)), entry(leg(1, 5), leg(11, -5)),
		entry(leg(2, 1), leg(1, -1)), entry(leg(1, 1), leg(1, -1)), entry(leg(1, 1), leg(2, -1), leg(2, 0)), entry(leg(1, 0), leg(3, 1), leg(2, -1)), entry(leg(9, 1), leg(1, -1)), entry(leg(1, 0), leg(2, 0), leg(2, 0), leg(3, 0)), entry(leg(3, 0), leg(2, 0), leg(4, 0)),
		entry(leg(1, most), leg(2, 1), leg(3, fewest)), // on the way over 64 bits
		entry(leg(1, most), leg(2, 1), leg(3, -1), leg(4, -most)),
		entry(leg(1, fewest), leg(2, -1), leg(3, most), leg(4, 2)),
		entry(leg(1, fewest), leg(2, fewest)), entry(leg(1, 1<<62), leg(2, 1<<62), leg(3, 1<<62), leg(4, 1<<62)), // nothing, were 64 bits all
		entry(leg(1, most), leg(2, most), leg(3, 2)),
		entry(leg(1, 1), leg(2, 1), leg(3, 1), leg(4, 1), leg(5, 1), leg(6, 1), leg(7, 1), leg(8, 1), leg(9, -8)), // one too many
		entry(leg(1, 0), leg(2, 0), leg(3, 0), leg(4, 0), leg(5, 0), leg(6, 0), leg(7, 0), leg(8, 0), leg(9, 0)),
		entry(slices.Repeat([]chart.Leg{leg(1, 0)}, 1000)...),
	}
	for _, kind := range []byte{0, 8, 9, 127, 128, 254, 255} {
		l = append(l, chart.Entry{Key: chart.Key{Loan: 3, Day: 7, Kind: kind, Seq: 300}, Legs: []chart.Leg{leg(1, -1), leg(2, 1)}})
	}
	for _, d := range []date.Day{-1, -2, api.MaxDay + 1, api.MaxDay + 2, math.MaxInt32, math.MinInt32} {
		l = append(l, chart.Entry{Key: chart.Key{Loan: 3, Day: d, Kind: 4, Seq: 300}, Legs: []chart.Leg{leg(1, -1), leg(2, 1)}})
	}
	return l
}

func same(a, b chart.Entry) bool {
	return a.Key == b.Key && slices.Equal(a.Legs, b.Legs)
}

func none(e chart.Entry) bool {
	return same(e, chart.Entry{})
}

// P13.1: the accounts and the kinds, Right.

func TestTheAccountsAndTheKinds(t *testing.T) {
	accounts := [9]byte{chart.Cash, chart.Principal, chart.Interest, chart.Fees, chart.Suspense, chart.Income, chart.Charges, chart.Loss, chart.Recovered}
	if accounts != [9]byte{1, 2, 3, 4, 5, 6, 7, 8, 9} {
		t.Fatal(accounts)
	}
	kinds := [7]byte{chart.Board, chart.Accrue, chart.Late, chart.Pay, chart.Fee, chart.Waive, chart.Off}
	if kinds != [7]byte{1, 2, 3, 4, 5, 6, 7} {
		t.Fatal(kinds)
	}
}

func TestRight(t *testing.T) {
	for _, k := range keys {
		e := chart.Entry{Key: k, Legs: []chart.Leg{leg(1, -100), leg(2, 100)}}
		if !e.Right() {
			t.Fatalf("%v isn't right", e)
		}
	}
	for _, l := range rightLegs() {
		if !entry(l...).Right() {
			t.Fatalf("%v isn't right", l)
		}
	}
	for _, e := range wrongEntries() {
		if e.Right() {
			t.Fatalf("%v is right", e)
		}
	}
}

func TestRightOfOneFaultWhereverItIs(t *testing.T) {
	for _, l := range rightLegs() {
		for k := range l {
			amount, above, below := slices.Clone(l), slices.Clone(l), slices.Clone(l)
			amount[k].Amount ^= 1
			above[k].Account += 9
			below[k].Account = 0
			if entry(amount...).Right() || entry(above...).Right() || entry(below...).Right() {
				t.Fatalf("%v with a fault at %d is right", l, k)
			}
			if k > 0 {
				equal, turned := slices.Clone(l), slices.Clone(l)
				equal[k].Account = l[k-1].Account
				turned[k].Account, turned[k-1].Account = l[k-1].Account, l[k].Account
				if entry(equal...).Right() || entry(turned...).Right() {
					t.Fatalf("%v, not rising at %d, is right", l, k)
				}
			}
		}
	}
}

func TestRightOfEachKindAndAccount(t *testing.T) {
	for n := range 256 {
		e := chart.Entry{Key: chart.Key{Kind: byte(n)}, Legs: []chart.Leg{leg(1, 0)}}
		if e.Right() != (n >= 1 && n <= 7) {
			t.Fatalf("kind %d", n)
		}
		if entry(leg(byte(n), 0)).Right() != (n >= 1 && n <= 9) {
			t.Fatalf("account %d", n)
		}
	}
}

// P13.1: Make.

// modelMake is Make, account by account.
func modelMake(k chart.Key, legs []chart.Leg) chart.Entry {
	e := chart.Entry{Key: k}
	for account := range 256 {
		sum, found := new(big.Int), false
		for _, g := range legs {
			if int(g.Account) != account {
				continue
			}
			found = true
			sum.Add(sum, big.NewInt(int64(g.Amount)))
			if !sum.IsInt64() {
				return chart.Entry{Key: k}
			}
		}
		if found {
			e.Legs = append(e.Legs, leg(byte(account), coin.Coin(sum.Int64())))
		}
	}
	return e
}

func wantMake(t *testing.T, k chart.Key, legs []chart.Leg) {
	t.Helper()
	if got, want := chart.Make(k, legs...), modelMake(k, legs); !same(got, want) {
		t.Fatalf("Make(%v, %v) = %v, want %v", k, legs, got, want)
	}
}

func TestMake(t *testing.T) {
	g := rand.New(rand.NewSource(22))
	for n := range 20000 {
		legs := make([]chart.Leg, g.Intn(20))
		for k := range legs {
			legs[k] = leg(byte(g.Intn(1+n%12)), coin.Coin(g.Intn(9)-4))
			if n%5 == 0 {
				legs[k].Amount = amounts[g.Intn(len(amounts))]
			}
			if n%7 == 0 {
				legs[k].Account = byte(g.Intn(256))
			}
		}
		wantMake(t, keys[n%len(keys)], legs)
	}
	for _, l := range rightLegs() {
		wantMake(t, key, l)
		turned := slices.Clone(l)
		slices.Reverse(turned)
		wantMake(t, key, turned)
		if e := chart.Make(key, turned...); !same(e, entry(l...)) || !e.Right() {
			t.Fatalf("Make(%v) = %v", turned, e)
		}
	}
}

func TestMakeExamples(t *testing.T) {
	for _, x := range []struct{ legs, want []chart.Leg }{
		{nil, nil}, {[]chart.Leg{}, nil},
		{[]chart.Leg{leg(3, -30), leg(1, 50), leg(3, -20)}, []chart.Leg{leg(1, 50), leg(3, -50)}},
		{[]chart.Leg{leg(1, 0)}, []chart.Leg{leg(1, 0)}}, // legs of nothing, too
		{[]chart.Leg{leg(2, 5), leg(1, 1), leg(2, -5)}, []chart.Leg{leg(1, 1), leg(2, 0)}},
		{[]chart.Leg{leg(2, 5)}, []chart.Leg{leg(2, 5)}},                                                   // it isn't Right, but is made
		{[]chart.Leg{leg(255, 1), leg(0, 2), leg(10, 3)}, []chart.Leg{leg(0, 2), leg(10, 3), leg(255, 1)}}, // of accounts that there aren't
		{[]chart.Leg{leg(1, most), leg(2, 7)}, []chart.Leg{leg(1, most), leg(2, 7)}},
		{[]chart.Leg{leg(1, most), leg(1, 1)}, nil},
		{[]chart.Leg{leg(1, most), leg(1, 1), leg(1, -1)}, nil}, // one by one
		{[]chart.Leg{leg(1, most), leg(1, -1), leg(1, 1)}, []chart.Leg{leg(1, most)}},
		{[]chart.Leg{leg(1, fewest), leg(1, -1), leg(1, 1)}, nil},
		{[]chart.Leg{leg(1, fewest), leg(1, 1), leg(1, -1)}, []chart.Leg{leg(1, fewest)}},
		{[]chart.Leg{leg(2, 7), leg(1, fewest), leg(3, 7), leg(1, -1)}, nil}, // none of any account
		{[]chart.Leg{leg(1, most), leg(2, most), leg(3, most)}, []chart.Leg{leg(1, most), leg(2, most), leg(3, most)}},
		{[]chart.Leg{leg(1, most), leg(2, -3), leg(1, fewest), leg(2, 1), leg(1, most)}, []chart.Leg{leg(1, most-1), leg(2, -2)}},
	} {
		for range 20 { // in whichever order a map is gone through
			if e := chart.Make(key, x.legs...); !same(e, entry(x.want...)) {
				t.Fatalf("Make(%v) = %v, want %v", x.legs, e, x.want)
			}
		}
	}
}

func TestMakeOfManyLegs(t *testing.T) {
	legs := []chart.Leg{}
	for k := range 256 * 40 {
		legs = append(legs, leg(byte(255-k%256), coin.Coin(k)))
	}
	wantMake(t, chart.Key{}, legs)
	if e := chart.Make(key, legs...); len(e.Legs) != 256 {
		t.Fatal(len(e.Legs))
	}
}

func TestMakeKeepsAnyKey(t *testing.T) {
	for _, e := range wrongEntries() {
		if got := chart.Make(e.Key, leg(2, 1), leg(1, -1)); !same(got, chart.Entry{Key: e.Key, Legs: []chart.Leg{leg(1, -1), leg(2, 1)}}) {
			t.Fatal(got)
		}
		if got := chart.Make(e.Key, leg(2, most), leg(2, most)); got.Key != e.Key || len(got.Legs) != 0 {
			t.Fatal(got)
		}
	}
}

func TestMakeIsNewMemory(t *testing.T) {
	room := []chart.Leg{leg(2, 1), leg(1, -2), leg(2, 1), leg(9, 9), leg(8, 8)}
	was := slices.Clone(room)
	a := chart.Make(key, room[:3]...)
	b := chart.Make(key, room[:3]...)
	if !slices.Equal(room, was) {
		t.Fatal(room)
	}
	spoil(a.Legs)
	if !slices.Equal(room, was) || !same(b, entry(leg(1, -2), leg(2, 2))) {
		t.Fatal(room, b)
	}
	spoil(room)
	if !same(b, entry(leg(1, -2), leg(2, 2))) {
		t.Fatal(b)
	}
}

// spoil writes over the legs, and their spare room.
func spoil(legs []chart.Leg) {
	legs = legs[:cap(legs)]
	for k := range legs {
		legs[k] = leg(77, 77)
	}
}

// P13.1: Turned and Of.

func TestTurned(t *testing.T) {
	for _, l := range rightLegs() {
		want, over := slices.Clone(l), false
		for k := range want {
			over = over || want[k].Amount == fewest
			want[k].Amount = -want[k].Amount
		}
		e, err := entry(l...).Turned()
		if over {
			if !none(e) || api.Code(err) != api.ErrOver {
				t.Fatalf("%v turned: %v, %v", l, e, err)
			}
			continue
		}
		if err != nil || !same(e, entry(want...)) {
			t.Fatalf("%v turned: %v, %v", l, e, err)
		}
	}
	for _, k := range keys {
		e, err := chart.Entry{Key: k, Legs: []chart.Leg{leg(1, -100), leg(2, 100)}}.Turned()
		if err != nil || !same(e, chart.Entry{Key: k, Legs: []chart.Leg{leg(1, 100), leg(2, -100)}}) {
			t.Fatal(e, err)
		}
	}
}

func TestTurnedErrors(t *testing.T) {
	for _, e := range wrongEntries() {
		if got, err := e.Turned(); !none(got) || api.Code(err) != api.ErrArg {
			t.Fatalf("%v turned: %v, %v", e, got, err)
		}
	}
	for _, l := range [][]chart.Leg{{leg(1, fewest), leg(2, most), leg(3, 1)}, {leg(1, most), leg(2, fewest), leg(3, 1)}, {leg(1, 1), leg(2, most-1), leg(5, fewest), leg(9, 1)}} {
		if got, err := entry(l...).Turned(); !none(got) || api.Code(err) != api.ErrOver {
			t.Fatalf("%v turned: %v, %v", l, got, err)
		}
	}
	if got, err := entry(leg(1, fewest+1), leg(2, most)).Turned(); err != nil || !same(got, entry(leg(1, most), leg(2, fewest+1))) {
		t.Fatal(got, err)
	}
	bad := chart.Entry{Key: chart.Key{Kind: 8}, Legs: []chart.Leg{leg(1, fewest), leg(2, most), leg(3, 1)}}
	if got, err := bad.Turned(); !none(got) || api.Code(err) != api.ErrArg {
		t.Fatal(got, err) // ErrArg is ahead of ErrOver
	}
}

func TestTurnedAsksForNoMoreThanItsErrors(t *testing.T) {
	e := entry(leg(1, -most), leg(2, -1), leg(3, most), leg(4, 1)) // to the least there is on the way
	got, err := e.Turned()
	if err != nil || !same(got, entry(leg(1, most), leg(2, 1), leg(3, -most), leg(4, -1))) {
		t.Fatal(got, err)
	}
}

func TestTurnedIsNewMemory(t *testing.T) {
	room := []chart.Leg{leg(1, -2), leg(2, 2), leg(9, 9), leg(8, 8)}
	was := slices.Clone(room)
	e := entry(room[:2]...)
	a, _ := e.Turned()
	b, _ := e.Turned()
	spoil(a.Legs)
	if !slices.Equal(room, was) || !same(b, entry(leg(1, 2), leg(2, -2))) {
		t.Fatal(room, b)
	}
	spoil(room)
	if !same(b, entry(leg(1, 2), leg(2, -2))) {
		t.Fatal(b)
	}
}

func TestOf(t *testing.T) {
	for _, l := range rightLegs() {
		for n := range 256 {
			want := coin.Coin(0)
			for _, g := range l {
				if int(g.Account) == n {
					want = g.Amount
				}
			}
			if got := entry(l...).Of(byte(n)); got != want {
				t.Fatalf("%v of %d: %d, want %d", l, n, got, want)
			}
		}
	}
	e := entry(leg(3, -30), leg(1, 50), leg(3, -20), leg(0, 4), leg(255, 5), leg(1, fewest)) // the first one, of what isn't Right, too
	for n, want := range map[byte]coin.Coin{0: 4, 1: 50, 2: 0, 3: -30, 4: 0, 254: 0, 255: 5} {
		if got := e.Of(n); got != want {
			t.Fatalf("Of(%d) = %d, want %d", n, got, want)
		}
		if got := (chart.Entry{}).Of(n); got != 0 {
			t.Fatalf("Of(%d) of nothing = %d", n, got)
		}
	}
	if got := entry(leg(2, 0), leg(2, 7)).Of(2); got != 0 {
		t.Fatal(got)
	}
}

// P13.2: Bytes and Parse.

func number(n uint64, mark byte) []byte {
	p := binary.BigEndian.AppendUint64(nil, n)
	for len(p) > 0 && p[0] == 0 {
		p = p[1:]
	}
	return append([]byte{byte(len(p)) + mark}, p...)
}

// modelBytes is Bytes of an entry that may be.
func modelBytes(e chart.Entry) []byte {
	p := []byte{}
	for _, n := range []uint64{uint64(e.Key.Loan), uint64(e.Key.Day), uint64(e.Key.Kind), uint64(e.Key.Seq), uint64(len(e.Legs))} {
		p = append(p, number(n, 0)...)
	}
	for _, g := range e.Legs {
		p = append(p, number(uint64(g.Account), 0)...)
		if g.Amount < 0 {
			p = append(p, number(uint64(-(g.Amount+1)), 128)...)
		} else {
			p = append(p, number(uint64(g.Amount), 0)...)
		}
	}
	return p
}

func wantBytesAndBack(t *testing.T, e chart.Entry) {
	t.Helper()
	p := e.Bytes()
	if want := modelBytes(e); !bytes.Equal(p, want) {
		t.Fatalf("%v.Bytes() = %x, want %x", e, p, want)
	}
	back, err := chart.Parse(p)
	if err != nil || !same(back, e) {
		t.Fatalf("Parse(%x) = %v, %v, want %v", p, back, err, e)
	}
}

func wantNone(t *testing.T, p []byte) {
	t.Helper()
	if e, err := chart.Parse(p); !none(e) || api.Code(err) != api.ErrForm {
		t.Fatalf("Parse(%x) = %v, %v", p, e, err)
	}
}

func TestBytesAndParse(t *testing.T) {
	for _, l := range rightLegs() {
		wantBytesAndBack(t, entry(l...))
	}
	for _, k := range keys {
		wantBytesAndBack(t, chart.Entry{Key: k, Legs: []chart.Leg{leg(1, -100), leg(2, 100)}})
	}
	for _, n := range amounts {
		if n == fewest {
			wantBytesAndBack(t, entry(leg(1, n), leg(2, most), leg(9, 1)))
		} else {
			wantBytesAndBack(t, entry(leg(1, n), leg(9, -n)))
		}
	}
	p := chart.Make(key, leg(3, -30), leg(1, 50), leg(3, -20)).Bytes()
	if string(p) != "\x01\x03\x01\x07\x01\x04\x02\x01\x2c\x01\x02\x01\x01\x01\x32\x01\x03\x81\x31" {
		t.Fatalf("%x", p)
	}
}

func TestBytesOfWhatMayNotBe(t *testing.T) {
	for _, e := range wrongEntries() {
		if p := e.Bytes(); len(p) != 0 {
			t.Fatalf("%v.Bytes() = %x", e, p)
		}
	}
}

func TestParseOfWhatMayNotBe(t *testing.T) {
	wantNone(t, nil)
	wantNone(t, []byte{})
	for _, e := range wrongEntries() {
		if e.Key.Day >= 0 {
			wantNone(t, modelBytes(e))
		}
	}
}

func TestParseOfPartsAndMore(t *testing.T) {
	for _, l := range rightLegs() {
		p := entry(l...).Bytes()
		for n := range p {
			wantNone(t, p[:n])
		}
		for _, more := range []string{"\x00", "\x01\x00", "\x01\x09\x00", "\xff"} {
			wantNone(t, append(bytes.Clone(p), more...))
		}
		wantNone(t, append(bytes.Clone(p), p...))
		wantNone(t, append([]byte{0}, p...))
	}
}

func TestParseTakesWhatBytesMakesAlone(t *testing.T) {
	for _, l := range rightLegs()[:60] {
		p := entry(l...).Bytes()
		for k := range p {
			for b := range 256 {
				q := bytes.Clone(p)
				q[k] = byte(b)
				e, err := chart.Parse(q)
				if err != nil && (!none(e) || api.Code(err) != api.ErrForm) {
					t.Fatalf("Parse(%x) = %v, %v", q, e, err)
				}
				if err == nil && (!e.Right() || !bytes.Equal(modelBytes(e), q) || !bytes.Equal(e.Bytes(), q)) {
					t.Fatalf("Parse(%x) = %v, whose bytes are %x", q, e, e.Bytes())
				}
			}
		}
	}
}

func TestParseOfOtherForms(t *testing.T) {
	const legs = "\x01\x02\x01\x01\x80\x01\x02\x01\x01"
	if _, err := chart.Parse([]byte("\x01\x03\x01\x07\x01\x04\x01\x05" + legs)); err != nil {
		t.Fatal(err)
	}
	for _, s := range []string{
		"\x05\x01\x00\x00\x00\x03\x01\x07\x01\x04\x01\x05" + legs, // a loan above 32 bits
		"\x01\x03\x05\x01\x00\x00\x00\x07\x01\x04\x01\x05" + legs, // a day above them
		"\x01\x03\x03\x37\xb9\xdb\x01\x04\x01\x05" + legs,         // the day behind the last one
		"\x01\x03\x04\xff\xff\xff\xff\x01\x04\x01\x05" + legs,     // a day that would be -1
		"\x01\x03\x01\x07\x02\x01\x04\x01\x05" + legs,             // a kind above a byte
		"\x01\x03\x01\x07\x01\x04\x05\x01\x00\x00\x00\x05" + legs, // a Seq above 32 bits
		"\x02\x00\x03\x01\x07\x01\x04\x01\x05" + legs,             // noughts in front
		"\x81\x03\x01\x07\x01\x04\x01\x05" + legs,                 // no Uint
		"\x01\x03\x01\x07\x01\x04\x01\x05\x00",
		"\x01\x03\x01\x07\x01\x04\x01\x05\x02\x01\x02\x01\x01\x80\x01\x02\x01\x01",
		"\x01\x03\x01\x07\x01\x04\x01\x05\x08\xff\xff\xff\xff\xff\xff\xff\xff\x01\x01\x80\x01\x02\x01\x01",
		"\x01\x03\x01\x07\x01\x04\x01\x05\x08\x80\x00\x00\x00\x00\x00\x00\x00\x01\x01\x80\x01\x02\x01\x01",
		"\x01\x03\x01\x07\x01\x04\x01\x05\x01\x02\x02\x01\x01\x80\x01\x02\x01\x01", // an account above a byte
		"\x01\x03\x01\x07\x01\x04\x01\x05\x01\x02\x01\x01\x80\x02\x01\x02\x01\x01",
		"\x01\x03\x01\x07\x01\x04\x01\x05\x01\x02\x01\x01\x81\x00\x01\x02\x01\x01", // noughts in front of an amount
		"\x01\x03\x01\x07\x01\x04\x01\x05\x01\x02\x01\x01\x88\xff\xff\xff\xff\xff\xff\xff\xff\x01\x02\x01\x01",
		"\x01\x03\x01\x07\x01\x04\x01\x05\x01\x02\x01\x01\x80\x01\x02\x08\x80\x00\x00\x00\x00\x00\x00\x01",
	} {
		wantNone(t, []byte(s))
	}
	e, err := chart.Parse([]byte("\x00\x03\x37\xb9\xda\x01\x04\x00" + legs)) // MaxDay
	if err != nil || !same(e, chart.Entry{Key: chart.Key{Day: api.MaxDay, Kind: 4}, Legs: []chart.Leg{leg(1, -1), leg(2, 1)}}) {
		t.Fatal(e, err)
	}
}

func TestBytesAndParseAreNewMemory(t *testing.T) {
	e := entry(leg(1, -100), leg(2, 100))
	p, q := e.Bytes(), e.Bytes()
	for k := range p[:cap(p)] {
		p[:cap(p)][k] = 99
	}
	if !bytes.Equal(q, modelBytes(e)) || !same(e, entry(leg(1, -100), leg(2, 100))) {
		t.Fatal(e, q)
	}
	a, _ := chart.Parse(q)
	b, _ := chart.Parse(q)
	spoil(a.Legs)
	if !bytes.Equal(q, modelBytes(e)) || !same(b, e) {
		t.Fatal(b, q)
	}
	clear(q[:cap(q)])
	if !same(b, e) {
		t.Fatal(b)
	}
}

// P13.2: Same, Less, Account, Kind.

func TestSame(t *testing.T) {
	e := entry(leg(1, -100), leg(2, 100))
	others := []chart.Entry{
		{}, entry(), entry(leg(1, -100)), entry(leg(2, 100)), entry(leg(1, -100), leg(2, 99)), entry(leg(1, -101), leg(2, 100)), entry(leg(1, -100), leg(3, 100)), entry(leg(2, -100), leg(2, 100)), entry(leg(2, 100), leg(1, -100)), entry(leg(1, -100), leg(2, 100), leg(3, 0)), entry(leg(0, 0), leg(1, -100), leg(2, 100)), entry(leg(1, 100), leg(2, -100)),
	}
	for _, k := range []chart.Key{{}, {Loan: 4, Day: 7, Kind: 4, Seq: 300}, {Loan: 3, Day: 8, Kind: 4, Seq: 300}, {Loan: 3, Day: 7, Kind: 5, Seq: 300}, {Loan: 3, Day: 7, Kind: 4, Seq: 301}} {
		others = append(others, chart.Entry{Key: k, Legs: e.Legs})
	}
	for k, a := range others {
		if chart.Same(a, e) || chart.Same(e, a) {
			t.Fatalf("%v and %v are alike", a, e)
		}
		for n, b := range others {
			if chart.Same(a, b) != (k == n) {
				t.Fatalf("%v and %v", a, b)
			}
		}
	}
	for _, l := range rightLegs() {
		if !chart.Same(entry(l...), entry(slices.Clone(l)...)) {
			t.Fatalf("%v isn't like itself", l)
		}
	}
	if !chart.Same(chart.Entry{Key: key}, chart.Entry{Key: key, Legs: []chart.Leg{}}) || !chart.Same(chart.Entry{Key: key, Legs: []chart.Leg{}}, chart.Entry{Key: key}) {
		t.Fatal("no legs")
	}
	if !chart.Same(entry(leg(99, 1), leg(99, 2)), entry(leg(99, 1), leg(99, 2))) {
		t.Fatal("of what isn't Right, too")
	}
}

// modelKey is a key as digits: what is ahead of another one is ahead of it as texts.
func modelKey(k chart.Key) string {
	p := binary.BigEndian.AppendUint32(nil, k.Loan)
	p = binary.BigEndian.AppendUint32(p, uint32(int64(k.Day)+1<<31))
	p = append(p, k.Kind)
	return string(binary.BigEndian.AppendUint32(p, k.Seq))
}

func TestLess(t *testing.T) {
	l := []chart.Key{}
	for _, loan := range []uint32{0, 3, 4, math.MaxUint32} {
		for _, d := range []date.Day{0, 7, 8, api.MaxDay, -1, math.MaxInt32, math.MinInt32} {
			for _, kind := range []byte{0, 4, 5, 127, 128, 255} {
				for _, seq := range []uint32{0, 300, 301, math.MaxUint32} {
					l = append(l, chart.Key{Loan: loan, Day: d, Kind: kind, Seq: seq})
				}
			}
		}
	}
	for _, a := range l {
		for _, b := range l {
			if got, want := a.Less(b), modelKey(a) < modelKey(b); got != want {
				t.Fatalf("%v.Less(%v) = %v", a, b, got)
			}
		}
	}
}

func TestLessExamples(t *testing.T) {
	for _, x := range []struct{ ahead, behind chart.Key }{
		{chart.Key{Loan: 3, Day: 9, Kind: 7, Seq: 9}, chart.Key{Loan: 4}},
		{chart.Key{Loan: 3, Day: 7, Kind: 7, Seq: 9}, chart.Key{Loan: 3, Day: 8}},
		{chart.Key{Loan: 3, Day: 7, Kind: 4, Seq: 9}, chart.Key{Loan: 3, Day: 7, Kind: 5}},
		{chart.Key{Loan: 3, Day: 7, Kind: 4, Seq: 8}, chart.Key{Loan: 3, Day: 7, Kind: 4, Seq: 9}},
		{chart.Key{Day: -1}, chart.Key{}},
	} {
		if !x.ahead.Less(x.behind) || x.behind.Less(x.ahead) || x.ahead.Less(x.ahead) || x.behind.Less(x.behind) {
			t.Fatal(x)
		}
	}
}

func TestAccountAndKind(t *testing.T) {
	accounts := []string{"", "cash", "principal", "interest", "fees", "suspense", "income", "charges", "loss", "recovered"}
	kinds := []string{"", "board", "accrue", "late", "pay", "fee", "waive", "off"}
	for n := range 256 {
		account, kind := "", ""
		if n < len(accounts) {
			account = accounts[n]
		}
		if n < len(kinds) {
			kind = kinds[n]
		}
		if chart.Account(byte(n)) != account || chart.Kind(byte(n)) != kind {
			t.Fatalf("%d: %q, %q", n, chart.Account(byte(n)), chart.Kind(byte(n)))
		}
	}
}

func TestWhatIsDoneWithAnEntryLeavesIt(t *testing.T) {
	room := []chart.Leg{leg(1, -100), leg(2, 60), leg(3, 40), leg(2, 9), leg(1, 9)}
	was := slices.Clone(room)
	e := entry(room[:3]...)
	for range 2 {
		e.Right()
		e.Turned()
		e.Bytes()
		e.Of(2)
		chart.Same(e, e)
		if e.Key != key || len(e.Legs) != 3 || !slices.Equal(room, was) {
			t.Fatal(e, room)
		}
	}
}
