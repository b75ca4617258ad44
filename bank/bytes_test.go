package bank_test

import (
	"bytes"
	"math"
	"math/rand"
	"slices"
	"testing"

	"arrears/api"
	"arrears/bank"
	"arrears/chart"
	"arrears/coin"
	"arrears/date"
	"arrears/due"
	"arrears/ledger"
	"arrears/loan"
	"arrears/terms"
)

func wantNone(t *testing.T, what any, p []byte) {
	t.Helper()
	if b, err := bank.Parse(p); b != nil || api.Code(err) != api.ErrForm {
		t.Fatalf("%v: Parse(% x): error %d", what, p, api.Code(err))
	}
}

// wantParsed holds that p is a bank's Bytes.
func wantParsed(t *testing.T, what any, p []byte) *bank.Bank {
	t.Helper()
	b, err := bank.Parse(p)
	if err != nil || !bytes.Equal(b.Bytes(), p) {
		t.Fatalf("%v: Parse(% x): error %d", what, p, api.Code(err))
	}
	return b
}

// parts are those of a bank's bytes, on the plain terms' Start.
type parts struct {
	loans [][]byte
	lines *ledger.Ledger
}

func (x *parts) form() []byte {
	return form(uint64(start), nil, x.loans, x.lines.Bytes())
}

// with is the parts of plain loans that began so many days ahead of today and were run through so many days; all are Synced.
func with(t *testing.T, ids []uint32, ago date.Day, days int) *parts {
	t.Helper()
	x := &parts{lines: ledger.New()}
	for _, id := range ids {
		l := loanOf(t, id, ago, days)
		must(t, l.Sync(x.lines))
		x.loans = append(x.loans, l.Bytes())
	}
	return x
}

func loanOf(t *testing.T, id uint32, ago date.Day, days int) *loan.Loan {
	t.Helper()
	l, err := loan.New(id, read(t, start-ago), nil)
	must(t, err)
	for range days {
		must(t, l.Run(l.Through()+1))
	}
	return l
}

// P19.3: Bytes, Parse.

func TestKnownBytes(t *testing.T) {
	if p := made(t, 0).Bytes(); string(p) != "\x00\x00\x00\x01\x01\x00" {
		t.Fatalf("% x", p)
	}
	b := made(t, 738915, 5, 300)
	head := "\x03\x0b\x46\x63\x01\x02\x01\x05\x02\x01\x2c"
	if p := b.Bytes(); string(p) != head+"\x00\x01\x01\x00" {
		t.Fatalf("% x", p)
	}
	must(t, b.Board(7, read(t, 738915)), b.Board(3, read(t, 738915)))
	wantStep(t, b, 3, false)
	want := head + "\x01\x02"
	for _, p := range [][]byte{b.Loan(3).Bytes(), b.Loan(7).Bytes()} {
		want += "\x01" + string(rune(len(p))) + string(p)
	}
	lines := b.Ledger().Bytes()
	want += "\x01" + string([]byte{byte(len(lines))}) + string(lines)
	if len(lines) < 50 || len(lines) > 255 || string(b.Bytes()) != want {
		t.Fatalf("% x, want % x", b.Bytes(), want)
	}
}

func TestParseOfDays(t *testing.T) {
	lines := ledger.New().Bytes()
	for _, d := range []uint64{0, 1, uint64(start), terms.MaxStart} {
		if b := wantParsed(t, d, form(d, nil, nil, lines)); b.Today() != date.Day(d) || b.Left() != 0 {
			t.Fatal(d, b.Today())
		}
	}
	for _, d := range []uint64{terms.MaxStart + 1, api.MaxDay, 1<<31 - 1, 1 << 32, 1<<32 + 5, math.MaxUint64} {
		wantNone(t, d, form(d, nil, nil, lines))
	}
}

func TestParseOfHolidays(t *testing.T) {
	lines := ledger.New().Bytes()
	most := make([]uint64, api.MaxHoly+1)
	for k := range most {
		most[k] = uint64(k) * 3
	}
	for _, h := range [][]uint64{nil, {0}, {api.MaxDay}, {0, 1}, {5, api.MaxDay}, most[:api.MaxHoly]} {
		wantParsed(t, h, form(uint64(start), h, nil, lines))
	}
	for _, h := range [][]uint64{{5, 5}, {6, 5}, {0, 0}, {api.MaxDay + 1}, {1 << 32}, {5, 1<<32 + 6}, {math.MaxUint64}, most} {
		wantNone(t, h, form(uint64(start), h, nil, lines))
	}
	// They are the loans': a fee of a loan's that is late by them, or isn't.
	first := start + 29 // 2024-02-29
	b := made(t, start, first, first+1)
	must(t, b.Board(3, read(t, start)))
	closes(t, b, 50)
	p := b.Bytes()
	back := wantParsed(t, "holidays", p)
	if back.Loan(3).Late(first+5) != 1 || back.Loan(3).State().Owed.Fees != 1500 {
		t.Fatal(back.Loan(3).Late(first + 5))
	}
	l := b.Loan(3).Bytes()
	wantNone(t, "other holidays", form(uint64(b.Today()), nil, [][]byte{l}, b.Ledger().Bytes()))
	wantNone(t, "holidays that don't rise", form(uint64(b.Today()), []uint64{uint64(first + 1), uint64(first)}, [][]byte{l}, b.Ledger().Bytes()))
}

func TestParseOfLoansInTheirOrder(t *testing.T) {
	for _, ids := range [][]uint32{nil, {0}, {math.MaxUint32}, {0, 1}, {3, 7, 9}, {0, math.MaxUint32}} {
		b := wantParsed(t, ids, with(t, ids, 2, 2).form())
		if !slices.Equal(b.IDs(), ids) || b.Left() != len(ids) {
			t.Fatal(ids, b.IDs(), b.Left())
		}
	}
	for _, ids := range [][]uint32{{1, 0}, {3, 9, 7}, {7, 3, 9}, {math.MaxUint32, 0}} {
		wantNone(t, ids, with(t, ids, 2, 2).form())
	}
	for _, id := range []uint32{0, 3, math.MaxUint32} {
		x := with(t, []uint32{id}, 2, 2)
		x.loans = append(x.loans, x.loans[0])
		wantNone(t, id, x.form())
	}
}

func TestParseOfLoansInTime(t *testing.T) {
	for days := range 8 {
		x := with(t, []uint32{3, 7}, 4, days)
		x.loans[1], x.lines = with(t, []uint32{7}, 4, 5).loans[0], ledger.New()
		must(t, loanOf(t, 3, 4, days).Sync(x.lines), loanOf(t, 7, 4, 5).Sync(x.lines))
		// Of a Start four days ahead of today: 4 days are up to the one ahead of today, 5 through today.
		if days != 4 && days != 5 {
			wantNone(t, days, x.form())
			continue
		}
		b := wantParsed(t, days, x.form())
		if b.Left() != 5-days || b.Loan(3).Through() != start-5+date.Day(days) {
			t.Fatal(days, b.Left())
		}
		if days == 4 {
			wantStep(t, b, 3, false)
		}
		wantStep(t, b, 0, true)
		wantKept(t, b)
	}
	// Boarded today, and not run; on the first day, too.
	if b := wantParsed(t, 0, with(t, []uint32{3}, 0, 0).form()); b.Left() != 1 {
		t.Fatal(b.Left())
	}
	first := made(t, 0)
	must(t, first.Board(3, read(t, 0)))
	if b := wantParsed(t, 0, first.Bytes()); b.Left() != 1 || b.Loan(3).Through() != -1 {
		t.Fatal(b.Left())
	}
}

func TestParseOfHowManyLoans(t *testing.T) {
	x := with(t, []uint32{3, 7}, 2, 2)
	lines := x.lines.Bytes()
	head := number(number(nil, uint64(start)), 0)
	for _, n := range []uint64{0, 1, 2, 3, api.MaxLoans, api.MaxLoans + 1, 1 << 32, 1<<32 + 2, math.MaxUint64} {
		p := number(slices.Clone(head), n)
		p = text(text(text(p, x.loans[0]), x.loans[1]), lines)
		if n == 2 {
			wantParsed(t, n, p)
		} else {
			wantNone(t, n, p)
		}
	}
}

func TestParseOfTooManyLoans(t *testing.T) {
	ids := make([]uint32, api.MaxLoans+1)
	for k := range ids {
		ids[k] = uint32(k) * 2
	}
	most := with(t, ids[:api.MaxLoans], 0, 0)
	if b, err := bank.Parse(most.form()); err != nil || len(b.IDs()) != api.MaxLoans {
		t.Fatal(api.Code(err))
	}
	l := loanOf(t, ids[api.MaxLoans], 0, 0)
	must(t, l.Sync(most.lines))
	most.loans = append(most.loans, l.Bytes())
	if b, err := bank.Parse(most.form()); b != nil || api.Code(err) != api.ErrForm {
		t.Fatal(api.Code(err))
	}
}

// P19.3: the ledger's live entries are the stories'.

func TestParseOfALedgerThatIsNotTheStories(t *testing.T) {
	key := func(id uint32, d date.Day, kind byte) chart.Key {
		return chart.Key{Loan: id, Day: d, Kind: kind}
	}
	accrual := func(id uint32, d date.Day, n coin.Coin) chart.Entry {
		return chart.Make(key(id, d, chart.Accrue), chart.Leg{Account: chart.Interest, Amount: n}, chart.Leg{Account: chart.Income, Amount: -n})
	}
	nought := chart.Make(key(3, start, chart.Off), chart.Leg{Account: chart.Cash})
	for what, spoil := range map[string]func(l *ledger.Ledger) error{
		"one lacks":            func(l *ledger.Ledger) error { return l.Reverse(key(3, start-1, chart.Accrue)) },
		"the other's lacks":    func(l *ledger.Ledger) error { return l.Reverse(key(7, start-2, chart.Board)) },
		"one more":             func(l *ledger.Ledger) error { return l.Post(accrual(3, start, 20)) },
		"one more, of nothing": func(l *ledger.Ledger) error { return l.Post(nought) },
		"one of no loan":       func(l *ledger.Ledger) error { return l.Post(accrual(5, start-2, 19)) },
		"one of no loan, behind all": func(l *ledger.Ledger) error {
			return l.Post(accrual(math.MaxUint32, start-2, 19))
		},
		"another amount": func(l *ledger.Ledger) error {
			if err := l.Reverse(key(7, start-1, chart.Accrue)); err != nil {
				return err
			}
			return l.Post(accrual(7, start-1, 21))
		},
		"another day": func(l *ledger.Ledger) error {
			if err := l.Reverse(key(7, start-1, chart.Accrue)); err != nil {
				return err
			}
			return l.Post(accrual(7, start, 20))
		},
		"another account": func(l *ledger.Ledger) error {
			if err := l.Reverse(key(3, start-1, chart.Accrue)); err != nil {
				return err
			}
			return l.Post(chart.Make(key(3, start-1, chart.Accrue), chart.Leg{Account: chart.Cash, Amount: 20}, chart.Leg{Account: chart.Income, Amount: -20}))
		},
	} {
		x := with(t, []uint32{3, 7}, 2, 2)
		wantParsed(t, what, x.form())
		must(t, spoil(x.lines))
		wantNone(t, what, x.form())
	}
	x := with(t, []uint32{3, 7}, 2, 2)
	x.lines = ledger.New()
	wantNone(t, "no lines", x.form())
	x = with(t, []uint32{3, 7}, 2, 2)
	x.loans = x.loans[:1]
	wantNone(t, "no loan of them", x.form())
	x.loans = nil
	wantNone(t, "no loans", x.form())
}

func TestParseOfLinesThatAreNotLive(t *testing.T) {
	// What was reversed may have been of any loan.
	x := with(t, []uint32{3, 7}, 2, 2)
	for _, id := range []uint32{0, 3, 5, math.MaxUint32} {
		e := chart.Make(chart.Key{Loan: id, Day: start, Kind: chart.Fee, Seq: 9}, chart.Leg{Account: chart.Fees, Amount: 5}, chart.Leg{Account: chart.Charges, Amount: -5})
		must(t, x.lines.Post(e), x.lines.Reverse(e.Key))
	}
	if b := wantParsed(t, "reversed ones", x.form()); b.Ledger().Len() != 6+8 {
		t.Fatal(b.Ledger().Len())
	}
	// What was reversed and posted anew is live.
	k := chart.Key{Loan: 3, Day: start - 1, Kind: chart.Accrue}
	e, _ := x.lines.Live(k)
	must(t, x.lines.Reverse(k))
	wantNone(t, "reversed", x.form())
	must(t, x.lines.Post(e))
	wantParsed(t, "posted anew", x.form())
}

// Whether Take would have taken the events isn't asked of a loan, nor here.
func TestParseOfEventsThatTheStoryTells(t *testing.T) {
	l := loanOf(t, 3, 2, 2)
	must(t, l.Take(pay(1, start, 500), start), l.Take(pay(2, start-1, 500), start), l.Take(fee(0, start-2, 5), start), l.Reverse(2, start))
	x := &parts{loans: [][]byte{l.Bytes()}, lines: ledger.New()}
	must(t, l.Sync(x.lines))
	b := wantParsed(t, "events", x.form())
	if b.Loan(3).State() != l.State() || l.State().Cash != 500 {
		t.Fatal(b.Loan(3).State())
	}
	wantKept(t, b)
}

func TestParseOfWhatIsNoForm(t *testing.T) {
	x := with(t, []uint32{3, 7}, 2, 2)
	p, lines := x.form(), x.lines.Bytes()
	for what, wrong := range map[string][]byte{
		"nothing":        nil,
		"a nought":       {0},
		"no number":      {9},
		"a byte more":    slices.Concat(p, []byte{0}),
		"a nought ahead": slices.Concat([]byte{4, 0}, p[1:]),
		"no loan":        form(uint64(start), nil, [][]byte{nil, x.loans[1]}, lines),
		"a loan of more": form(uint64(start), nil, [][]byte{slices.Concat(x.loans[0], []byte{0}), x.loans[1]}, lines),
		"no ledger":      form(uint64(start), nil, x.loans, nil),
		"more lines":     form(uint64(start), nil, x.loans, slices.Concat(lines, []byte{0})),
		"fewer lines":    form(uint64(start), nil, x.loans, lines[:len(lines)-1]),
	} {
		wantNone(t, what, wrong)
	}
	wantParsed(t, "all", p)
	for n := range p {
		wantNone(t, n, p[:n])
	}
}

// TestParseOfTurnedBytes: what is read has just these Bytes, and nothing else is.
func TestParseOfTurnedBytes(t *testing.T) {
	b := made(t, start, 5, start+30)
	must(t, b.Board(3, read(t, start)), b.Take(3, pay(1, start, 500)), b.Board(300, read(t, start)), b.Reverse(3, 1))
	wantStep(t, b, 3, false)
	p := b.Bytes()
	wantParsed(t, "all", p)
	read := 0
	for at := range p {
		for n := range 256 {
			turned := slices.Clone(p)
			turned[at] = byte(n)
			if wantOneForm(t, turned) {
				read++
			}
		}
	}
	if read <= len(p) {
		t.Fatal(read)
	}
}

// wantOneForm holds that p is a bank's Bytes, or ErrForm; true: it is.
func wantOneForm(t *testing.T, p []byte) bool {
	t.Helper()
	back, err := bank.Parse(p)
	if err == nil && !bytes.Equal(back.Bytes(), p) || err != nil && (back != nil || api.Code(err) != api.ErrForm) {
		t.Fatalf("% x: error %d", p, api.Code(err))
	}
	return err == nil
}

func TestParseOfAnyBytes(t *testing.T) {
	g := rand.New(rand.NewSource(193))
	was := with(t, []uint32{3, 7}, 2, 2).form()
	for range 20000 {
		p := slices.Clone(was[:g.Intn(len(was)+1)])
		for range g.Intn(4) {
			p = slices.Insert(p, g.Intn(len(p)+1), byte(g.Intn(256)>>g.Intn(8)))
		}
		wantOneForm(t, p)
	}
}

func TestParseKeepsNothing(t *testing.T) {
	b := made(t, start, due.Holy{5, start + 29}...)
	must(t, b.Board(3, read(t, start)), b.Take(3, pay(1, start, 5)))
	p := b.Bytes()
	was := slices.Clone(p)
	back := wantParsed(t, "all", p)
	if !bytes.Equal(p, was) {
		t.Fatal("Parse changed what it was handed")
	}
	for k := range p {
		p[k] = 255
	}
	if !bytes.Equal(back.Bytes(), was) || !bank.Same(b, back) {
		t.Fatal("Parse keeps what it was handed")
	}
	must(t, back.Take(3, pay(2, start, 7)))
	if bank.Same(b, back) || b.Loan(3).State().Cash != 5 || back.Loan(3).State().Cash != 12 {
		t.Fatal("the same")
	}
}
