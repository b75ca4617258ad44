package terms_test

import (
	"bytes"
	"encoding/binary"
	"fmt"
	"math"
	"math/rand"
	"slices"
	"strings"
	"testing"
	"time"

	"arrears/api"
	"arrears/coin"
	"arrears/date"
	"arrears/due"
	"arrears/late"
	"arrears/level"
	"arrears/span"
	"arrears/terms"
	"arrears/yield"
)

// plain is what the chapter's example tells.
const plain = "level 1200.00 60000 thirty 12 2024-01-31 15.00 10"

// fields are values of each field.
type fields struct {
	kinds      []byte
	principals []coin.Coin
	rates      []yield.Rate
	months     []int
	starts     []date.Day
	fees       []coin.Coin
	graces     []int
}

// rightFields are each field's edges, and some of what lies between.
var rightFields = fields{
	kinds:      []byte{level.Level, level.Only},
	principals: []coin.Coin{1, 2, 99, 100, 255, 256, 120000, api.MaxMoney - 1, api.MaxMoney},
	rates:      []yield.Rate{{Parts: 0, Basis: 1}, {Parts: 0, Basis: 2}, {Parts: 1, Basis: 1}, {Parts: 255, Basis: 2}, {Parts: 256, Basis: 1}, {Parts: 60000, Basis: 1}, {Parts: 999999, Basis: 2}, {Parts: 1000000, Basis: 1}, {Parts: 1000000, Basis: 2}},
	months:     []int{1, 2, 12, 255, 256, api.MaxTerms - 1, api.MaxTerms},
	starts:     []date.Day{0, 1, 255, 256, 738915, 3599999, 3600000},
	fees:       []coin.Coin{0, 1, 99, 100, 1500, 999999999, 1000000000},
	graces:     []int{0, 1, 10, 59, 60},
}

// wrongFields are each field's values that may not be.
var wrongFields = fields{
	kinds:      []byte{0, 3, 4, 127, 128, 254, 255},
	principals: []coin.Coin{0, -1, -2, -120000, api.MaxMoney + 1, api.MaxMoney + 2, -api.MaxMoney, math.MaxInt64, math.MinInt64},
	rates:      []yield.Rate{{}, {Parts: 60000}, {Basis: 3}, {Parts: 60000, Basis: 255}, {Parts: 1000001, Basis: 1}, {Parts: 1000001, Basis: 2}, {Parts: 1 << 31, Basis: 1}, {Parts: math.MaxUint32, Basis: 2}},
	months:     []int{0, -1, -12, api.MaxTerms + 1, api.MaxTerms + 2, 1<<32 + 12, -1<<32 + 12, math.MaxInt32, math.MinInt32, math.MaxInt, math.MinInt},
	starts:     []date.Day{-1, -2, 3600001, 3600002, api.MaxDay, api.MaxDay + 1, math.MaxInt32, math.MinInt32},
	fees:       []coin.Coin{-1, -2, -1500, 1000000001, 1000000002, api.MaxMoney, math.MaxInt64, math.MinInt64},
	graces:     []int{-1, -2, -60, 61, 62, 1<<32 + 10, -1<<32 + 10, math.MaxInt32, math.MinInt32, math.MaxInt, math.MinInt},
}

func usual() terms.Terms {
	return terms.Terms{Kind: level.Level, Principal: 120000, Rate: yield.Rate{Parts: 60000, Basis: span.Thirty}, Months: 12, Start: 738915, Fee: 1500, Grace: 10}
}

// with is t with each of the values.
func with[T any](t terms.Terms, values []T, set func(t *terms.Terms, x T)) []terms.Terms {
	l := []terms.Terms{}
	for _, x := range values {
		changed := t
		set(&changed, x)
		l = append(l, changed)
	}
	return l
}

// withEach is t with one field changed, to each of its values.
func withEach(t terms.Terms, f fields) []terms.Terms {
	return slices.Concat(
		with(t, f.kinds, func(t *terms.Terms, x byte) { t.Kind = x }),
		with(t, f.principals, func(t *terms.Terms, x coin.Coin) { t.Principal = x }),
		with(t, f.rates, func(t *terms.Terms, x yield.Rate) { t.Rate = x }),
		with(t, f.months, func(t *terms.Terms, x int) { t.Months = x }),
		with(t, f.starts, func(t *terms.Terms, x date.Day) { t.Start = x }),
		with(t, f.fees, func(t *terms.Terms, x coin.Coin) { t.Fee = x }),
		with(t, f.graces, func(t *terms.Terms, x int) { t.Grace = x }),
	)
}

// edges is terms that may be: usual ones, all at their least, and all at their greatest.
func edges() []terms.Terms {
	return []terms.Terms{
		usual(),
		{Kind: 1, Principal: 1, Rate: yield.Rate{Basis: 1}, Months: 1},
		{Kind: 2, Principal: 1000000000000, Rate: yield.Rate{Parts: 1000000, Basis: 2}, Months: 480, Start: 3600000, Fee: 1000000000, Grace: 60},
	}
}

// rightTerms is terms that may be: the edges, each field at each of its own, and any.
func rightTerms() []terms.Terms {
	l := append(edges(), withEach(usual(), rightFields)...)
	g := rand.New(rand.NewSource(161))
	for k := range 300 {
		l = append(l, terms.Terms{
			Kind:      byte(1 + g.Intn(2)),
			Principal: 1 + coin.Coin(g.Int63n(api.MaxMoney)>>(k%40)),
			Rate:      yield.Rate{Parts: uint32(g.Intn(api.MaxRate+1)) >> (k % 20), Basis: byte(1 + g.Intn(2))},
			Months:    1 + g.Intn(api.MaxTerms)>>(k%9),
			Start:     date.Day(g.Intn(terms.MaxStart+1) >> (k % 22)),
			Fee:       coin.Coin(g.Intn(terms.MaxFee+1) >> (k % 30)),
			Grace:     g.Intn(terms.MaxGrace + 1),
		})
	}
	return l
}

// wrongTerms is terms that may not be: each fault alone, and many of them.
func wrongTerms() []terms.Terms {
	l := []terms.Terms{{}, {Kind: 1}, {Kind: 255, Principal: -1, Rate: yield.Rate{Parts: math.MaxUint32, Basis: 255}, Months: -1, Start: -1, Fee: -1, Grace: -1}}
	for _, t := range edges() {
		l = append(l, withEach(t, wrongFields)...)
	}
	return l
}

func day(t *testing.T, s string) date.Day {
	t.Helper()
	d, err := date.Read(s)
	if err != nil {
		t.Fatal(s, err)
	}
	return d
}

func read(t *testing.T, s string) terms.Terms {
	t.Helper()
	x, err := terms.Read(s)
	if err != nil {
		t.Fatalf("Read(%q): error %d", s, api.Code(err))
	}
	return x
}

func dues(t *testing.T, x terms.Terms, h due.Holy) []late.Due {
	t.Helper()
	l, err := x.Dues(h)
	if err != nil || len(l) != x.Months {
		t.Fatalf("%v.Dues(%v): %d of them, error %d", x, h, len(l), api.Code(err))
	}
	return l
}

// P16.1: Right.

func TestTheLimits(t *testing.T) {
	if terms.MaxFee != 1000000000 || terms.MaxGrace != 60 || terms.MaxStart != 3600000 {
		t.Fatal(terms.MaxFee, terms.MaxGrace, terms.MaxStart)
	}
}

func TestRight(t *testing.T) {
	for _, x := range rightTerms() {
		if !x.Right() {
			t.Fatalf("%v aren't right", x)
		}
		for _, w := range withEach(x, wrongFields) {
			if w.Right() {
				t.Fatalf("%v are right", w)
			}
		}
	}
	for _, x := range wrongTerms() {
		if x.Right() {
			t.Fatalf("%v are right", x)
		}
	}
}

func TestRightOfEachKindAndBasis(t *testing.T) {
	for n := range 256 {
		kind, basis := usual(), usual()
		kind.Kind, basis.Rate.Basis = byte(n), byte(n)
		want := n == 1 || n == 2
		if kind.Right() != want || basis.Right() != want {
			t.Fatalf("%d: %v, %v", n, kind.Right(), basis.Right())
		}
	}
}

func TestRightOfEachMonthsAndGrace(t *testing.T) {
	for n := -600; n <= 600; n++ {
		a, b := usual(), usual()
		a.Months, b.Grace = n, n
		if a.Right() != (n >= 1 && n <= 480) || b.Right() != (n >= 0 && n <= 60) {
			t.Fatalf("%d: %v, %v", n, a.Right(), b.Right())
		}
	}
}

// P16.1: Dues.

// modelDay is a month's due day by the library's calendar.
func modelDay(h due.Holy, start date.Day, k int) date.Day {
	from := time.Date(1, 1, 1+int(start), 0, 0, 0, 0, time.UTC)
	first := time.Date(from.Year(), from.Month()+time.Month(k), 1, 0, 0, 0, 0, time.UTC)
	end := first.AddDate(0, 1, -1).Day()
	n := min(from.Day(), end)
	if from.AddDate(0, 0, 1).Day() == 1 {
		n = end
	}
	at := time.Date(first.Year(), first.Month(), n, 0, 0, 0, 0, time.UTC).Unix()
	d := date.Day((at - time.Date(1, 1, 1, 0, 0, 0, 0, time.UTC).Unix()) / (24 * 60 * 60))
	for d%7 >= 5 || slices.Contains(h, d) {
		d++
	}
	return d
}

// wantDues asks of each month for its day by the library's calendar, and for all that layer 10 has paid by then.
func wantDues(t *testing.T, x terms.Terms, h due.Holy) {
	t.Helper()
	rows, err := level.Rows(x.Kind, x.Principal, x.Rate, x.Months)
	if err != nil {
		t.Fatal(err)
	}
	sum := coin.Coin(0)
	for k, got := range dues(t, x, h) {
		sum += rows[k].Interest + rows[k].Principal
		want := late.Due{Day: modelDay(h, x.Start, k+1), Sum: sum}
		if got != want {
			t.Fatalf("%v: month %d is due %v, want %v (%s)", x, k+1, got, want, want.Day.Text())
		}
	}
}

func TestDues(t *testing.T) {
	for _, x := range rightTerms() {
		wantDues(t, x, nil)
		wantDues(t, x, due.Holy{})
		h := due.Holy{}
		for k := range min(x.Months, 66) { // some due days, and the two behind each of them
			if d := modelDay(nil, x.Start, k+1); len(h) == 0 || d > h[len(h)-1] {
				h = append(h, d, d+1, d+2)
			}
		}
		wantDues(t, x, h)
	}
}

func TestDuesExamples(t *testing.T) {
	type row struct {
		day string
		sum coin.Coin
	}
	holy := due.Holy{day(t, "2024-02-29"), day(t, "2024-04-01"), day(t, "2024-05-31")}
	for _, x := range []struct {
		text string
		h    due.Holy
		want []row
	}{
		{"level 10.00 0 actual 3 2024-01-31 0.00 0", nil, []row{{"2024-02-29", 334}, {"2024-04-01", 668}, {"2024-04-30", 1000}}},
		{"level 10.00 0 actual 3 2024-01-31 0.00 0", holy, []row{{"2024-03-01", 334}, {"2024-04-02", 668}, {"2024-04-30", 1000}}},
		{"level 10.00 120000 thirty 2 2024-01-31 15.00 60", nil, []row{{"2024-02-29", 508}, {"2024-04-01", 1015}}},
		{"only 10.00 120000 thirty 4 2024-01-31 15.00 10", holy, []row{{"2024-03-01", 10}, {"2024-04-02", 20}, {"2024-04-30", 30}, {"2024-06-03", 1040}}},
		{"only 10.00 0 actual 3 2024-02-15 0.00 0", nil, []row{{"2024-03-15", 0}, {"2024-04-15", 0}, {"2024-05-15", 1000}}},
		{"level 0.01 0 actual 3 2024-02-15 0.00 0", nil, []row{{"2024-03-15", 1}, {"2024-04-15", 1}, {"2024-05-15", 1}}}, // all is paid ahead of the last month
		{"level 0.01 1000000 actual 1 0001-01-01 0.00 0", nil, []row{{"0001-02-01", 1}}},
		{"only 10000000000.00 1000000 thirty 2 2023-02-28 0.00 0", nil, []row{{"2023-03-31", 83333333333}, {"2023-05-01", 1166666666666}}},
	} {
		l := dues(t, read(t, x.text), x.h)
		if len(l) != len(x.want) {
			t.Fatalf("%s: %v", x.text, l)
		}
		for k, w := range x.want {
			if l[k].Day.Text() != w.day || l[k].Sum != w.sum {
				t.Fatalf("%s: month %d is due %s (%d), want %v", x.text, k+1, l[k].Day.Text(), l[k].Sum, w)
			}
		}
	}
}

// The chapter's example.
func TestTheFirstDueDay(t *testing.T) {
	l := dues(t, read(t, plain), nil)
	if l[0] != (late.Due{Day: 738944, Sum: 10328}) || l[0].Day.Text() != "2024-02-29" || l[11].Day.Text() != "2025-01-31" {
		t.Fatal(l)
	}
}

func TestDuesOfTheLastStart(t *testing.T) {
	h := due.Holy{}
	x := terms.Terms{Kind: 2, Principal: api.MaxMoney, Rate: yield.Rate{Parts: api.MaxRate, Basis: 1}, Months: 480, Start: 3600000, Fee: 1000000000, Grace: 60}
	plain := dues(t, x, nil)
	if plain[479].Sum != 480*83333333333+api.MaxMoney {
		t.Fatal(plain[479])
	}
	for k := range api.MaxHoly {
		h = append(h, plain[479].Day+date.Day(k))
	}
	wantDues(t, x, h)
	if l := dues(t, x, h); !slices.Equal(l[:479], plain[:479]) || l[479].Day < plain[479].Day+api.MaxHoly {
		t.Fatal(l[479])
	}
}

func TestTwoMonthsDueOnOneDay(t *testing.T) {
	x := usual()
	h := due.Holy{}
	for d := day(t, "2024-02-28"); len(h) < 40; d++ {
		h = append(h, d)
	}
	wantDues(t, x, h)
	if l := dues(t, x, h); l[0].Day != l[1].Day || l[0].Sum >= l[1].Sum {
		t.Fatal(l)
	}
}

func wantNoDues(t *testing.T, x terms.Terms, h due.Holy) {
	t.Helper()
	if l, err := x.Dues(h); len(l) != 0 || api.Code(err) != api.ErrArg {
		t.Fatalf("%v.Dues of %d days: %v, error %d", x, len(h), l, api.Code(err))
	}
}

func TestDuesErrors(t *testing.T) {
	many := due.Holy{}
	for k := range api.MaxHoly + 1 {
		many = append(many, date.Day(k))
	}
	wrong := []due.Holy{many, {5, 5}, {6, 5}, {-1}, {-1, 5}, {api.MaxDay + 1}, {5, api.MaxDay + 1}, {math.MinInt32}, {math.MaxInt32}}
	for _, h := range wrong {
		wantNoDues(t, usual(), h)
		wantNoDues(t, terms.Terms{}, h)
	}
	for _, x := range wrongTerms() {
		wantNoDues(t, x, nil)
		wantNoDues(t, x, due.Holy{738944})
		wantNoDues(t, x, wrong[0])
	}
	for _, h := range []due.Holy{many[:api.MaxHoly], {0, api.MaxDay}} {
		wantDues(t, usual(), h)
	}
}

func TestDuesAreNewMemory(t *testing.T) {
	x, room := usual(), due.Holy{738944, 738945, 99, 98}
	was := slices.Clone(room)
	a, b := dues(t, x, room[:2]), dues(t, x, room[:2])
	want := slices.Clone(b)
	clear(a[:cap(a)])
	if !slices.Equal(room, was) || !slices.Equal(b, want) || x != usual() {
		t.Fatal(room, b)
	}
	clear(room)
	if !slices.Equal(b, want) {
		t.Fatal(b)
	}
}

// P16.2: Bytes and Parse.

func number(n uint64) []byte {
	p := binary.BigEndian.AppendUint64(nil, n)
	for len(p) > 0 && p[0] == 0 {
		p = p[1:]
	}
	return append([]byte{byte(len(p))}, p...)
}

// modelBytes is what Bytes would be, were the terms right.
func modelBytes(x terms.Terms) []byte {
	p := []byte{}
	for _, n := range []uint64{uint64(x.Kind), uint64(x.Principal), uint64(x.Rate.Parts), uint64(x.Rate.Basis), uint64(x.Months), uint64(x.Start), uint64(x.Fee), uint64(x.Grace)} {
		p = append(p, number(n)...)
	}
	return p
}

func wantNoTerms(t *testing.T, p []byte) {
	t.Helper()
	if x, err := terms.Parse(p); x != (terms.Terms{}) || api.Code(err) != api.ErrForm {
		t.Fatalf("Parse(%x) = %v, error %d", p, x, api.Code(err))
	}
}

func TestBytesAndParse(t *testing.T) {
	for _, x := range rightTerms() {
		p := x.Bytes()
		if want := modelBytes(x); !bytes.Equal(p, want) {
			t.Fatalf("%v.Bytes() = %x, want %x", x, p, want)
		}
		if back, err := terms.Parse(p); err != nil || back != x {
			t.Fatalf("Parse(%x) = %v, error %d, want %v", p, back, api.Code(err), x)
		}
	}
}

func TestBytesExamples(t *testing.T) {
	for text, want := range map[string]string{
		plain:                                    "\x01\x01\x03\x01\xd4\xc0\x02\xea\x60\x01\x02\x01\x0c\x03\x0b\x46\x63\x02\x05\xdc\x01\x0a",
		"only 0.01 0 actual 1 0001-01-01 0.00 0": "\x01\x02\x01\x01\x00\x01\x01\x01\x01\x00\x00\x00",
		"level 10000000000.00 1000000 thirty 480 9857-06-20 10000000.00 60": "\x01\x01\x05\xe8\xd4\xa5\x10\x00\x03\x0f\x42\x40\x01\x02\x02\x01\xe0\x03\x36\xee\x80\x04\x3b\x9a\xca\x00\x01\x3c",
	} {
		x := read(t, text)
		if got := x.Bytes(); string(got) != want {
			t.Fatalf("%s: %x, want %x", text, got, want)
		}
		if back, err := terms.Parse([]byte(want)); err != nil || back != x {
			t.Fatalf("%s: %v, error %d", text, back, api.Code(err))
		}
	}
}

func TestBytesOfWhatMayNotBe(t *testing.T) {
	for _, x := range wrongTerms() {
		if p := x.Bytes(); len(p) != 0 {
			t.Fatalf("%v.Bytes() = %x", x, p)
		}
		wantNoTerms(t, modelBytes(x))
	}
}

func TestParseOfPartsAndMore(t *testing.T) {
	wantNoTerms(t, nil)
	wantNoTerms(t, []byte{})
	for _, x := range rightTerms() {
		p := x.Bytes()
		for n := range p {
			wantNoTerms(t, p[:n])
			wantBytesOrNone(t, p[n+1:])
		}
		for _, more := range []string{"\x00", "\x01\x00", "\x01\x01", "\xff", string(p)} {
			wantNoTerms(t, append(bytes.Clone(p), more...))
			wantNoTerms(t, append([]byte(more), p...))
		}
	}
}

func TestParseTakesWhatBytesMakesAlone(t *testing.T) {
	for _, x := range rightTerms()[:60] {
		p := x.Bytes()
		for k := range p {
			for b := range 256 {
				q := bytes.Clone(p)
				q[k] = byte(b)
				wantBytesOrNone(t, q)
			}
		}
	}
}

// wantBytesOrNone asks that p is the bytes of what is parsed of it, or that nothing is.
func wantBytesOrNone(t *testing.T, p []byte) {
	t.Helper()
	x, err := terms.Parse(p)
	if err != nil {
		wantNoTerms(t, p)
	} else if !x.Right() || !bytes.Equal(modelBytes(x), p) || !bytes.Equal(x.Bytes(), p) {
		t.Fatalf("Parse(%x) = %v, whose bytes are %x", p, x, x.Bytes())
	}
}

// Numbers that would be right, were they cut to their kind of whole numbers.
func TestParseOfNumbersAboveTheirLimits(t *testing.T) {
	right := []uint64{1, 100, 5, 2, 12, 7, 15, 10}
	limits := []uint64{2, 1000000000000, 1000000, 2, 480, 3600000, 1000000000, 60}
	for k, limit := range limits {
		for _, n := range []uint64{limit, limit + 1, limit + 2, right[k] + 1<<8, right[k] + 1<<16, right[k] + 1<<31, right[k] + 1<<32, right[k] + 1<<40, right[k] + 1<<63, math.MaxUint64} {
			p := []byte{}
			for at, usual := range right {
				if at == k {
					usual = n
				}
				p = append(p, number(usual)...)
			}
			if n > limit {
				wantNoTerms(t, p)
			} else if x, err := terms.Parse(p); err != nil || !bytes.Equal(modelBytes(x), p) {
				t.Fatalf("Parse(%x) = %v, error %d", p, x, api.Code(err))
			}
		}
	}
}

func TestParseOfOtherForms(t *testing.T) {
	right := []string{"\x01\x01", "\x01\x64", "\x01\x05", "\x01\x02", "\x01\x0c", "\x01\x07", "\x01\x0f", "\x01\x0a"}
	x, err := terms.Parse([]byte(strings.Join(right, "")))
	if err != nil || x != (terms.Terms{Kind: 1, Principal: 100, Rate: yield.Rate{Parts: 5, Basis: 2}, Months: 12, Start: 7, Fee: 15, Grace: 10}) {
		t.Fatal(x, api.Code(err))
	}
	for k, s := range right {
		for _, other := range []string{"\x02\x00" + s[1:], "\x08\x00\x00\x00\x00\x00\x00\x00" + s[1:], "\x81" + s[1:], "\x80", "\x01\x00", "\x09" + s[1:], "\xff", "", s + s} {
			l := slices.Clone(right)
			l[k] = other
			wantNoTerms(t, []byte(strings.Join(l, "")))
		}
	}
}

func TestBytesAndParseAreNewMemory(t *testing.T) {
	x := usual()
	p, q := x.Bytes(), x.Bytes()
	clear(p[:cap(p)])
	if !bytes.Equal(q, modelBytes(x)) || x != usual() {
		t.Fatalf("%x", q)
	}
	room := append(bytes.Clone(q), 7, 7)
	was := bytes.Clone(room)
	y, err := terms.Parse(room[:len(q)])
	if err != nil || !bytes.Equal(room, was) {
		t.Fatalf("%x", room)
	}
	clear(room)
	if y != usual() {
		t.Fatal(y)
	}
}

// P16.2: Text and Read.

// modelText is what Text would be, were the terms right.
func modelText(x terms.Terms) string {
	kind, basis := []string{"", "level", "only"}[x.Kind], []string{"", "actual", "thirty"}[x.Rate.Basis]
	at := time.Date(1, 1, 1+int(x.Start), 0, 0, 0, 0, time.UTC)
	return fmt.Sprintf("%s %d.%02d %d %s %d %s %d.%02d %d", kind, x.Principal/100, x.Principal%100, x.Rate.Parts, basis, x.Months, at.Format("2006-01-02"), x.Fee/100, x.Fee%100, x.Grace)
}

func wantUnread(t *testing.T, s string) {
	t.Helper()
	if x, err := terms.Read(s); x != (terms.Terms{}) || api.Code(err) != api.ErrText {
		t.Fatalf("Read(%q) = %v, error %d", s, x, api.Code(err))
	}
}

func TestTextAndRead(t *testing.T) {
	for _, x := range rightTerms() {
		s := x.Text()
		if want := modelText(x); s != want {
			t.Fatalf("%v.Text() = %q, want %q", x, s, want)
		}
		if back := read(t, s); back != x {
			t.Fatalf("Read(%q) = %v, want %v", s, back, x)
		}
	}
}

func TestTextExamples(t *testing.T) {
	for s, want := range map[string]terms.Terms{
		plain:                                    usual(),
		"only 0.01 0 actual 1 0001-01-01 0.00 0": {Kind: 2, Principal: 1, Rate: yield.Rate{Basis: 1}, Months: 1},
		"level 10000000000.00 1000000 thirty 480 9857-06-20 10000000.00 60": {Kind: 1, Principal: 1000000000000, Rate: yield.Rate{Parts: 1000000, Basis: 2}, Months: 480, Start: 3600000, Fee: 1000000000, Grace: 60},
	} {
		if x := read(t, s); x != want || want.Text() != s {
			t.Fatalf("%q: %v, %q", s, x, want.Text())
		}
	}
}

func TestTextOfWhatMayNotBe(t *testing.T) {
	for _, x := range wrongTerms() {
		if s := x.Text(); s != "" {
			t.Fatalf("%v.Text() = %q", x, s)
		}
	}
}

// Each word in forms that Text never tells.
func TestReadOfOtherWords(t *testing.T) {
	right := strings.Split(plain, " ")
	for k, others := range [][]string{
		{"", "Level", "LEVEL", "levels", "leve", "1", "thirty", "actual", "even", "level\x00"},
		{"", "1200", "1200.", "1200.0", "1200.000", "01200.00", "+1200.00", "-1200.00", "0.00", "-0.00", ".00", "1,200.00", "1200,00", "10000000000.01", "100000000000000000000.00", "99999999999999999999.99", "x"},
		{"", "060000", "+60000", "-60000", "60000.0", "6e4", "60_000", "0xea60", "1000001", "4294967296", "4295027296", "18446744073709551616", "184467440737095516160", "00", "-0", "x"},
		{"", "Thirty", "thirt", "thirtyy", "2", "level", "sixty", "30/360"},
		{"", "0", "-12", "+12", "012", "12.0", "1_2", "0xc", "481", "4294967308", "18446744073709551628", "9223372036854775808", "x"},
		{"", "2024-01-32", "2024-1-31", "2024-01-31T", "20240131", "2024-02-30", "2023-02-29", "0000-01-01", "-001-01-01", "9857-06-21", "9999-12-31", "10000-01-01", "2024/01/31", "738915"},
		{"", "15", "15.0", "015.00", "+15.00", "-15.00", "-0.00", "-0.01", "10000000.01", "92233720368547758.07", "92233720368547758.08", "x"},
		{"", "61", "-1", "+10", "010", "-0", "00", "10.0", "4294967306", "18446744073709551626", "9223372036854775808", "x"},
	} {
		for _, other := range others {
			l := slices.Clone(right)
			l[k] = other
			wantUnread(t, strings.Join(l, " "))
		}
	}
}

func TestReadOfPartsAndMore(t *testing.T) {
	for _, x := range rightTerms()[:60] {
		s := x.Text()
		for n := range s {
			wantTextOrNone(t, s[:n])
			wantTextOrNone(t, s[n+1:])
		}
		for _, more := range []string{" ", "\n", "\t", "\x00", " 10", " x", " " + s, "  "} {
			wantUnread(t, s+more)
			wantUnread(t, more+s)
		}
		l := strings.Split(s, " ")
		for k := range l {
			wantUnread(t, strings.Join(slices.Delete(slices.Clone(l), k, k+1), " "))
			wantUnread(t, strings.Join(slices.Insert(slices.Clone(l), k, ""), " "))
			wantUnread(t, strings.Join(slices.Insert(slices.Clone(l), k, l[k]), " "))
			wantUnread(t, strings.Join(l[:k], " "))
		}
		for _, between := range []string{"", "  ", "\t", "\n", ",", "\u00a0"} {
			wantUnread(t, strings.Join(l, between))
		}
	}
}

func TestReadOfNoText(t *testing.T) {
	for _, s := range []string{"", " ", "       ", "        ", "level", "1 2 3 4 5 6 7 8", "\xff\xfe", strings.Repeat(" ", 1000000), strings.Repeat("9", 1000000), strings.Repeat(plain+" ", 10000), strings.ToUpper(plain)} {
		wantUnread(t, s)
	}
}

func TestReadTakesWhatTextTellsAlone(t *testing.T) {
	const others = "0123456789 -+.,_xeaAlt\x00\xff"
	for _, x := range rightTerms()[:60] {
		s := x.Text()
		for k := range len(s) + 1 {
			for _, b := range []byte(others) {
				wantTextOrNone(t, s[:k]+string([]byte{b})+s[k:])
				if k < len(s) {
					wantTextOrNone(t, s[:k]+string([]byte{b})+s[k+1:])
					wantTextOrNone(t, s[:k]+s[k+1:])
				}
			}
		}
	}
}

// wantTextOrNone asks that s is the text of what is read of it, or that nothing is.
func wantTextOrNone(t *testing.T, s string) {
	t.Helper()
	x, err := terms.Read(s)
	if err != nil {
		wantUnread(t, s)
	} else if !x.Right() || modelText(x) != s || x.Text() != s {
		t.Fatalf("Read(%q) = %v, whose text is %q", s, x, x.Text())
	}
}

func TestWhatIsDoneWithTermsLeavesThem(t *testing.T) {
	for _, x := range append(edges(), wrongTerms()...) {
		was := x
		for range 2 {
			x.Right()
			x.Dues(due.Holy{738944})
			x.Bytes()
			x.Text()
			if x != was {
				t.Fatal(x, was)
			}
		}
	}
}
