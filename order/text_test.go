package order_test

import (
	"fmt"
	"math"
	"math/rand"
	"slices"
	"strings"
	"testing"
	"time"

	"arrears/api"
	"arrears/order"
	"arrears/story"
)

const (
	plainTerms = "level 1200.00 60000 actual 12 2024-01-31 15.00 10"
	plainBoard = "board 3 " + plainTerms
	plainPay   = "pay 3 1 2021-08-01 5.00"
)

// modelText is what Text would be, were the order right.
func modelText(o order.Order) string {
	e := o.Event
	day := time.Date(1, 1, 1+int(e.Day), 0, 0, 0, 0, time.UTC).Format("2006-01-02")
	switch o.Kind {
	case 1:
		return fmt.Sprintf("board %d %s", o.Loan, o.Terms.Text())
	case 2:
		if e.Kind == 7 {
			return fmt.Sprintf("off %d %d %s", o.Loan, e.Seq, day)
		}
		name := map[byte]string{4: "pay", 5: "fee", 6: "waive"}[e.Kind]
		return fmt.Sprintf("%s %d %d %s %d.%02d", name, o.Loan, e.Seq, day, e.Amount/100, e.Amount%100)
	case 3:
		return fmt.Sprintf("reverse %d %d", o.Loan, e.Seq)
	}
	return "step"
}

func wantUnread(t *testing.T, s string) {
	t.Helper()
	if o, err := order.Read(s); o != (order.Order{}) || api.Code(err) != api.ErrText {
		t.Fatalf("Read(%.100q) = %v, error %d", s, o, api.Code(err))
	}
}

// wantTextOrNone holds that s is the text of what is read of it, or that nothing is.
func wantTextOrNone(t *testing.T, s string) {
	t.Helper()
	o, err := order.Read(s)
	if err != nil {
		wantUnread(t, s)
	} else if !o.Right() || modelText(o) != s || o.Text() != s {
		t.Fatalf("Read(%q) = %v, whose text is %q", s, o, o.Text())
	}
}

// P20.2: Text and Read.

func TestTextAndRead(t *testing.T) {
	for _, o := range rightOrders() {
		s := o.Text()
		if want := modelText(o); s != want {
			t.Fatalf("%v.Text() = %q, want %q", o, s, want)
		}
		if back, err := order.Read(s); err != nil || back != o {
			t.Fatalf("Read(%q) = %v, error %d, want %v", s, back, api.Code(err), o)
		}
	}
}

func TestKnownTexts(t *testing.T) {
	for s, want := range map[string]order.Order{
		plainPay:                        take(3, story.Event{Seq: 1, Day: 738002, Kind: story.Pay, Amount: 500}),
		"pay 3 1 2021-07-30 5.00":       take(3, story.Event{Seq: 1, Day: 738000, Kind: story.Pay, Amount: 500}), // by layer 5; the chapter's example has the text of 738002
		"fee 0 0 0001-01-01 0.01":       take(0, story.Event{Kind: story.Fee, Amount: 1}),
		"waive 10 20 2021-08-01 100.05": take(10, story.Event{Seq: 20, Day: 738002, Kind: story.Waive, Amount: 10005}),
		"pay 4294967295 4294967295 9999-12-31 10000000000.00": take(math.MaxUint32, story.Event{Seq: math.MaxUint32, Day: api.MaxDay, Kind: story.Pay, Amount: api.MaxMoney}),
		"off 3 4 2021-08-01":            take(3, story.Event{Seq: 4, Day: 738002, Kind: story.Off}),
		"off 0 0 0001-01-01":            take(0, story.Event{Kind: story.Off}),
		"reverse 3 1":                   reverse(3, 1),
		"reverse 0 0":                   reverse(0, 0),
		"reverse 4294967295 4294967295": reverse(math.MaxUint32, math.MaxUint32),
		"step":                          step(),
		plainBoard:                      board(3, usual()),
		"board 0 level 0.01 0 actual 1 0001-01-01 0.00 0":                                   board(0, rightTerms()[1]),
		"board 4294967295 only 10000000000.00 1000000 thirty 480 9857-06-20 10000000.00 60": board(math.MaxUint32, rightTerms()[2]),
	} {
		if o, err := order.Read(s); err != nil || o != want || want.Text() != s {
			t.Fatalf("%q: %v, error %d; %q", s, o, api.Code(err), want.Text())
		}
	}
}

func TestTextOfWhatMayNotBe(t *testing.T) {
	for _, o := range slices.Concat(wrongOrders(), strangeOrders()) {
		if s := o.Text(); s != "" {
			t.Fatalf("%v.Text() = %q", o, s)
		}
	}
}

// Each word in forms that Text never tells.
func TestReadOfOtherWords(t *testing.T) {
	wholes := []string{"", "-1", "+1", "01", "00", "-0", "1.0", "1_0", "0x1", "1e1", "4294967296", "4294967297", "18446744073709551615", "18446744073709551616", "99999999999999999999999", "x", "\uff11"}
	dates := []string{"", "2024-02-30", "2023-02-29", "2024-1-31", "20240131", "2024/01/31", "0000-01-01", "-001-01-01", "10000-01-01", "2024-01-31T", "738915", "x"}
	sums := []string{"", "5", "5.", "5.0", "5.000", "05.00", "+5.00", "-5.00", "-0.01", "0.00", "-0.00", ".05", "5,00", "10000000000.01", "92233720368547758.07", "92233720368547758.08", "99999999999999999999.00", "x"}
	names := []string{"", "Pay", "PAY", "pays", "pa", "take", "board", "accrue", "late", "reverse", "step", "off", "4", "2", "none", "pay\x00"}
	for text, words := range map[string][][]string{
		plainPay:                    {names, wholes, wholes, dates, sums},
		"fee 3 2 2024-01-31 0.01":   {names, wholes, wholes, dates, sums},
		"waive 3 3 2024-01-31 1.00": {names, wholes, wholes, dates, sums},
		"off 3 4 2024-01-31":        {{"", "Off", "offs", "pay", "fee", "waive", "board", "reverse", "step", "take", "late"}, wholes, wholes, dates},
		"reverse 3 1":               {{"", "Reverse", "reversed", "pay", "off", "step", "board", "take"}, wholes, wholes},
		"step":                      {{"Step", "STEP", "steps", "ste", "board", "reverse", "pay", "off", "take", "4"}},
		plainBoard:                  {{"", "Board", "boards", "pay", "off", "reverse", "step", "take"}, wholes, {"", "Level", "pay"}, sums, wholes[:6], {"", "sixty"}, wholes[:9], dates, sums[:9], wholes[:9]},
	} {
		right := strings.Split(text, " ")
		for k, others := range words {
			for _, other := range others {
				l := slices.Clone(right)
				l[k] = other
				wantUnread(t, strings.Join(l, " "))
			}
		}
	}
}

func TestReadOfPartsAndMore(t *testing.T) {
	for _, o := range some() {
		s := o.Text()
		for n := range s {
			wantTextOrNone(t, s[:n])
			wantTextOrNone(t, s[n+1:])
		}
		for _, more := range []string{" ", "\n", "\r", "\t", "\x00", " 1", " 1.00", " x", " " + s, "  "} {
			wantUnread(t, s+more)
			wantUnread(t, more+s)
		}
		l := strings.Split(s, " ")
		for k := range l {
			wantUnread(t, strings.Join(slices.Delete(slices.Clone(l), k, k+1), " "))
			wantUnread(t, strings.Join(slices.Insert(slices.Clone(l), k, ""), " "))
			wantUnread(t, strings.Join(slices.Insert(slices.Clone(l), k, l[k]), " "))
			wantUnread(t, strings.Join(l[:k], " "))
		}
		for _, between := range []string{"", "  ", "\t", "\n", ",", "\u00a0"} {
			if len(l) > 1 {
				wantUnread(t, strings.Join(l, between))
			}
		}
	}
}

func TestReadOfNoText(t *testing.T) {
	for _, s := range []string{
		"", " ", "  ", "   ", "    ", "pay", "fee", "waive", "off", "board", "reverse", "pay ", "step ", " step", "step 0", "step 1", "reverse 3", "reverse 03 1", "reverse 3 1 1",
		"off 3 4 2024-01-31 1.00", "off 3 4 2024-01-31 0.00", "pay 3 1 2024-01-31", "pay 3 1 2024-01-31 0.00", "take 3 1 2024-01-31 5.00", "board 3 level", "board " + plainTerms, plainTerms, "late 3 1 2024-01-31 5.00", "accrue 3 0 2024-01-31 5.00",
		plainPay + "\n", strings.ToUpper(plainPay), plainPay + " " + plainPay, "\xff\xfe", "pay 3 1 2021-08-01 5.00\xff",
		strings.Repeat(" ", 1000000), strings.Repeat("9", 1000000), "reverse 3 " + strings.Repeat("9", 1000000), "reverse 3 " + strings.Repeat("0", 1000000) + "1", "pay 3 1 2021-08-01 " + strings.Repeat("9", 1000000) + ".00", strings.Repeat(plainBoard+" ", 10000),
	} {
		wantUnread(t, s)
	}
}

func TestReadTakesWhatTextTellsAlone(t *testing.T) {
	const others = "0123456789 -+.,_xeaAlt\x00\xff"
	for _, o := range some() {
		s := o.Text()
		for k := range len(s) + 1 {
			for _, b := range []byte(others) {
				wantTextOrNone(t, s[:k]+string([]byte{b})+s[k:])
				if k < len(s) {
					wantTextOrNone(t, s[:k]+string([]byte{b})+s[k+1:])
					wantTextOrNone(t, s[:k]+s[k+1:])
				}
			}
		}
	}
}

// Any words of orders, one behind the other.
func TestReadOfAnyWords(t *testing.T) {
	words := []string{"board", "pay", "fee", "waive", "off", "reverse", "step", "take", "3", "1", "0", "03", "2021-08-01", "5.00", "0.00", "level", "actual", "12", "", "x"}
	g := rand.New(rand.NewSource(203))
	for range 50000 {
		l := []string{}
		for range g.Intn(7) {
			l = append(l, words[g.Intn(len(words))])
		}
		wantTextOrNone(t, strings.Join(l, " "))
	}
}
