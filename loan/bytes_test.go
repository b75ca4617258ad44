package loan_test

import (
	"bytes"
	"math"
	"math/rand"
	"slices"
	"testing"

	"arrears/api"
	"arrears/chart"
	"arrears/coin"
	"arrears/date"
	"arrears/due"
	"arrears/loan"
	"arrears/story"
	"arrears/terms"
)

func wantNone(t *testing.T, what any, p []byte) {
	t.Helper()
	for _, h := range []due.Holy{nil, {6, 5}} { // ahead of what h is
		if l, err := loan.Parse(p, h); l != nil || api.Code(err) != api.ErrForm {
			t.Fatalf("%v: Parse(% x) = %v, error %d", what, p, l, api.Code(err))
		}
	}
}

// wantParsed holds that p is a loan's Bytes.
func wantParsed(t *testing.T, what any, p []byte) *loan.Loan {
	t.Helper()
	l, err := loan.Parse(p, nil)
	if err != nil || !bytes.Equal(l.Bytes(), p) {
		t.Fatalf("%v: Parse(% x): error %d", what, p, api.Code(err))
	}
	return l
}

// form is a loan's bytes, part by part.
func form(n uint64, text []byte, days, count uint64, l ...loan.Past) []byte {
	p := number(nil, n)
	p = append(number(p, uint64(len(text))), text...)
	p = number(number(p, days), count)
	for _, x := range l {
		p = past(p, x)
	}
	return p
}

// P18.3: Bytes, Parse.

func TestKnownBytes(t *testing.T) {
	l, d := ran(t, 2)
	text := string(l.Terms().Bytes())
	head := "\x01\x04\x01" + string(rune(len(text))) + text
	for _, c := range []struct{ got, want string }{
		{string(made(t, id, l.Terms()).Bytes()), head + "\x00\x00"},
		{string(l.Bytes()), head + "\x01\x02\x00"},
	} {
		if c.got != c.want {
			t.Fatalf("% x, want % x", c.got, c.want)
		}
	}
	must(t, l.Take(pay(300, d+1, 5), d+2), l.Take(off(0, d+1), d+2), l.Reverse(300, d+2))
	if d != 738915 {
		t.Fatal(d)
	}
	if want := head + "\x01\x02\x01\x02" + "\x02\x01\x2c\x03\x0b\x46\x64\x01\x04\x01\x05\x01\x01" + "\x00\x03\x0b\x46\x64\x01\x07\x00\x00"; string(l.Bytes()) != want {
		t.Fatalf("% x, want % x", l.Bytes(), want)
	}
}

func TestParseAtItsEdges(t *testing.T) {
	x := read(t, plain)
	for _, n := range ids {
		wantParsed(t, n, form(uint64(n), x.Bytes(), 0, 0))
	}
	for _, start := range []date.Day{0, 1, 738915, terms.MaxStart} {
		x.Start = start
		most := uint64(terms.MaxStart + 40000 - start + 1)
		for _, days := range []uint64{0, 1, 255, 256, most - 1, most} {
			if l := wantParsed(t, days, form(id, x.Bytes(), days, 0)); l.Through() != start-1+date.Day(days) {
				t.Fatal(days, l.Through())
			}
		}
		for _, days := range []uint64{most + 1, most + 2, 3640002, 1<<31 - 1, 1 << 31, 1<<32 - 1, 1 << 32, 1<<32 + 5, math.MaxInt64, math.MaxUint64} {
			wantNone(t, days, form(id, x.Bytes(), days, 0))
		}
	}
}

func TestParseOfEvents(t *testing.T) {
	x := read(t, plain)
	// Whether Take would have taken them isn't asked.
	for _, d := range []date.Day{0, x.Start - 1, x.Start, x.Start + 2, x.Start + 3, api.MaxDay} {
		for _, e := range []story.Event{pay(1, d, 1), pay(0, d, api.MaxMoney), fee(math.MaxUint32, d, 5), waive(7, d, 5), off(7, d)} {
			l := wantParsed(t, e, form(id, x.Bytes(), 3, 1, loan.Past{Event: e}))
			if !slices.Equal(l.Events(), []loan.Past{{Event: e}}) {
				t.Fatal(e, l.Events())
			}
			gone := form(id, x.Bytes(), 3, 1, loan.Past{Event: e, Gone: true})
			if e.Kind != chart.Pay {
				wantNone(t, e, gone)
			} else if l := wantParsed(t, e, gone); !l.Events()[0].Gone || l.State().Cash != 0 {
				t.Fatal(e, l.Events())
			}
		}
	}
	closed := []loan.Past{{Event: off(5, x.Start)}, {Event: fee(4, x.Start, 5)}, {Event: off(1, x.Start)}, {Event: pay(2, x.Start, 1)}}
	wantParsed(t, closed, form(id, x.Bytes(), 3, 4, closed...))
}

func TestParseOfEventsThatMayNotBe(t *testing.T) {
	x := read(t, plain)
	d := x.Start
	for _, e := range []story.Event{
		pay(1, d, 0), fee(1, d, 0), waive(1, d, 0), pay(1, d, api.MaxMoney+1), pay(1, d, math.MaxInt64), pay(1, d, -1), pay(1, api.MaxDay+1, 5), pay(1, math.MaxInt32, 5), pay(1, -1, 5),
		{Seq: 1, Day: d, Kind: chart.Off, Amount: 1}, {Seq: 1, Day: d, Kind: chart.Late, Amount: 5}, {Seq: 1, Day: d, Kind: 0, Amount: 5}, {Seq: 1, Day: d, Kind: 8, Amount: 5}, {Seq: 1, Day: d, Kind: 255}, {},
	} {
		for _, l := range [][]loan.Past{{{Event: e}}, {{Event: e, Gone: true}}, {{Event: pay(9, d, 5)}, {Event: e}}, {{Event: e}, {Event: pay(9, d, 5)}}} {
			wantNone(t, e, form(id, x.Bytes(), 3, uint64(len(l)), l...))
		}
	}
	for _, l := range [][]loan.Past{
		{{Event: pay(1, d, 5)}, {Event: pay(1, d, 5)}},
		{{Event: pay(1, d, 5), Gone: true}, {Event: pay(1, d, 5)}},
		{{Event: pay(1, d, 5)}, {Event: pay(2, d, 5)}, {Event: fee(1, d+1, 6)}},
		{{Event: fee(1, d, 5)}, {Event: fee(2, d, 5), Gone: true}},
	} {
		wantNone(t, l, form(id, x.Bytes(), 3, uint64(len(l)), l...))
	}
}

func TestParseOfHowManyEvents(t *testing.T) {
	x := read(t, plain)
	l := make([]loan.Past, api.MaxEvents+1)
	for k := range l {
		l[k] = loan.Past{Event: pay(uint32(k), x.Start, 1), Gone: k%2 == 0}
	}
	wantParsed(t, api.MaxEvents, form(id, x.Bytes(), 3, api.MaxEvents, l[:api.MaxEvents]...))
	wantNone(t, api.MaxEvents+1, form(id, x.Bytes(), 3, api.MaxEvents+1, l...))
	for _, n := range []uint64{0, 1, 3, 4, 1 << 32, math.MaxUint64} {
		wantNone(t, n, form(id, x.Bytes(), 3, n, l[:2]...))
	}
}

func TestParseOfWhatIsNoForm(t *testing.T) {
	x := read(t, plain)
	text := x.Bytes()
	kind := slices.Clone(text)
	kind[1] = 3
	plainForm := form(id, text, 3, 0)
	flagged := form(id, text, 3, 1, loan.Past{Event: pay(1, x.Start, 5), Gone: true})
	wantParsed(t, "plain", plainForm)
	wantParsed(t, "flagged", flagged)
	for what, p := range map[string][]byte{
		"nothing":         nil,
		"a nought":        {0},
		"no number":       {9},
		"an id too great": form(1<<32, text, 3, 0),
		"the greatest id": form(math.MaxUint64, text, 3, 0),
		"no terms":        form(id, nil, 3, 0),
		"another kind":    form(id, kind, 3, 0),
		"terms too short": form(id, text[:len(text)-1], 3, 0),
		"terms too long":  form(id, slices.Concat(text, []byte{0}), 3, 0),
		"a byte more":     slices.Concat(plainForm, []byte{0}),
		"a nought ahead":  slices.Concat([]byte{2, 0, 4}, plainForm[2:]),
		"a flag of 2":     slices.Concat(flagged[:len(flagged)-1], []byte{2}),
		"no flag":         flagged[:len(flagged)-2],
	} {
		wantNone(t, what, p)
	}
}

// TestParseOfNumbersThatAreTooGreat: cut to their types' bits, they would be right.
func TestParseOfNumbersThatAreTooGreat(t *testing.T) {
	x := read(t, plain)
	right := []uint64{1, uint64(x.Start), chart.Pay, 5, 1}
	with := func(at, bits int) []byte {
		p := form(id, x.Bytes(), 3, 1)
		for k, n := range right {
			if k == at {
				n += 1 << bits
			}
			p = number(p, n)
		}
		return p
	}
	wantParsed(t, "all", with(-1, 0))
	for at, least := range []int{32, 32, 8, 40, 1} { // Seq, Day, Kind, Amount, Gone
		for bits := least; bits < 64; bits++ {
			wantNone(t, at, with(at, bits))
		}
	}
	wantParsed(t, "the greatest bit of a Seq", with(0, 31))
	wantParsed(t, "the greatest bit of an amount", with(3, 39))
}

// TestParseOfTurnedBytes: what is read has just these Bytes, and nothing else is.
func TestParseOfTurnedBytes(t *testing.T) {
	l, d := ran(t, 2)
	must(t, l.Take(pay(300, d+1, 5), d+2), l.Take(fee(0, d, 77), d+2), l.Take(pay(7, d, 70000), d+2), l.Reverse(300, d+2))
	p := l.Bytes()
	wantParsed(t, "all", p)
	for n := range p {
		wantNone(t, n, p[:n])
	}
	read := 0
	for at := range p {
		for n := range 256 {
			turned := slices.Clone(p)
			turned[at] = byte(n)
			back, err := loan.Parse(turned, nil)
			if err == nil && !bytes.Equal(back.Bytes(), turned) || err != nil && (back != nil || api.Code(err) != api.ErrForm) {
				t.Fatalf("% x: error %d", turned, api.Code(err))
			}
			if err == nil {
				read++
			}
		}
	}
	if read < len(p) {
		t.Fatal(read)
	}
}

func TestParseOfAnyBytes(t *testing.T) {
	g := rand.New(rand.NewSource(183))
	l, d := ran(t, 2)
	must(t, l.Take(pay(300, d+1, 5), d+2))
	was := l.Bytes()
	for range 20000 {
		p := slices.Clone(was[:g.Intn(len(was)+1)])
		for range g.Intn(4) {
			p = slices.Insert(p, g.Intn(len(p)+1), byte(g.Intn(256)>>g.Intn(8)))
		}
		back, err := loan.Parse(p, nil)
		if err == nil && !bytes.Equal(back.Bytes(), p) || err != nil && (back != nil || api.Code(err) != api.ErrForm) {
			t.Fatalf("% x: error %d", p, api.Code(err))
		}
	}
}

func TestParseWithHolidays(t *testing.T) {
	x := read(t, plain)
	first := x.Start + 29
	h := due.Holy{first, first + 1}
	l := made(t, id, x, h...)
	p := l.Bytes()
	if !bytes.Equal(p, made(t, id, x).Bytes()) { // they aren't in the bytes
		t.Fatal("holidays are in the bytes")
	}
	with, err := loan.Parse(p, h)
	must(t, err)
	without, err := loan.Parse(p, nil)
	must(t, err)
	h[0], h[1] = 0, 1
	if with.Late(first+5) != 1 || without.Late(first+5) != 5 {
		t.Fatal(with.Late(first+5), without.Late(first+5))
	}
	for _, n := range ids {
		for _, wrong := range []due.Holy{{6, 5}, {5, 5}, {-1}, {api.MaxDay + 1}, make(due.Holy, api.MaxHoly+1)} {
			l, err := loan.Parse(form(uint64(n), x.Bytes(), 3, 0), wrong)
			if l != nil {
				t.Fatal(wrong)
			}
			wantErr(t, wrong, err, api.ErrArg, n)
		}
	}
}

func TestParsedGoesOn(t *testing.T) {
	g := rand.New(rand.NewSource(1830))
	for range 100 {
		x := someTerms(g)
		m := newModel(t, g.Uint32(), x, someHoly(g, x))
		l := made(t, m.id, x, m.h...)
		for range 20 {
			step(t, g, l, m)
			back, err := loan.Parse(l.Bytes(), m.h)
			must(t, err)
			l = back
		}
		wantLike(t, l, m)
		if l.State().Cash < coin.Coin(0) {
			t.Fatal(l.State())
		}
	}
}
