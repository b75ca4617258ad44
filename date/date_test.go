package date_test

import (
	"math"
	"math/rand"
	"strings"
	"testing"
	"time"

	"arrears/api"
	"arrears/date"
)

const last = date.Day(api.MaxDay)

// wrongDays are none of the days that there are.
var wrongDays = []date.Day{-1, -2, -7, -365, last + 1, last + 2, last + 366, math.MinInt32, math.MinInt32 + 1, math.MaxInt32 - 1, math.MaxInt32}

// wrongCivils are the dates of no day.
var wrongCivils = []date.Civil{
	{}, {2024, 0, 1}, {2024, 13, 1}, {2024, -1, 1}, {2024, 1, 0}, {2024, 1, -1}, {2024, 1, 32}, {2024, 4, 31}, {2024, 2, 30}, {2023, 2, 29}, {1900, 2, 29}, {2100, 2, 29},
	{0, 1, 1}, {0, 12, 31}, {0, 2, 29}, {-1, 1, 1}, {-4, 2, 29}, {10000, 1, 1}, {10000, 2, 29}, {math.MaxInt, 1, 1}, {math.MinInt, 1, 1},
	{2024, math.MaxInt, 1}, {2024, math.MinInt, 1}, {2024, 1, math.MaxInt}, {2024, 1, math.MinInt}, {math.MinInt, math.MinInt, math.MinInt}, {math.MaxInt, math.MaxInt, math.MaxInt},
}

// model is the day's date by the library's calendar.
func model(d date.Day) time.Time {
	return time.Date(1, 1, 1+int(d), 0, 0, 0, 0, time.UTC)
}

func modelCivil(d date.Day) date.Civil {
	y, m, n := model(d).Date()
	return date.Civil{Year: y, Month: int(m), Day: n}
}

// modelLength is the day ahead of the next month's first, by the library's calendar.
func modelLength(year, month int) int {
	return time.Date(year, time.Month(month)+1, 0, 0, 0, 0, 0, time.UTC).Day()
}

// someDays are the edges of years, and some of all others.
func someDays() []date.Day {
	l := []date.Day{0, 1, 30, 31, 58, 59, 60, 364, 365, last - 1, last}
	for _, y := range []int{1, 4, 5, 100, 101, 400, 401, 1900, 1999, 2000, 2001, 2023, 2024, 2100, 2400, 9996, 9999} {
		at := date.Day(time.Date(y, 1, 1, 0, 0, 0, 0, time.UTC).Sub(model(0)) / (24 * time.Hour))
		for _, k := range []date.Day{0, 30, 31, 58, 59, 60, 364} {
			l = append(l, at+k)
		}
	}
	r := rand.New(rand.NewSource(7))
	for range 200 {
		l = append(l, date.Day(r.Intn(api.MaxDay+1)))
	}
	return l
}

// P5.1 and P5.2 at each day that there is.

func TestEachDay(t *testing.T) {
	at := model(0)
	for d := date.Day(0); d <= last; d++ {
		y, m, n := at.Date()
		want := date.Civil{Year: y, Month: int(m), Day: n}
		next := at.AddDate(0, 0, 1)
		c, err := d.Civil()
		if c != want || err != nil || !d.Right() || !c.Right() {
			t.Fatalf("%d is %v, %v, want %v", d, c, err, want)
		}
		if back, err := c.Number(); back != d || err != nil {
			t.Fatalf("%v is %d, %v, want %d", c, back, err, d)
		}
		if c.Last() != (next.Day() == 1) {
			t.Fatalf("%v is its month's last: %v", c, c.Last())
		}
		if d.Week() != (int(at.Weekday())+6)%7 {
			t.Fatalf("%v is day %d of the week", c, d.Week())
		}
		at = next
	}
	if at.Year() != 10000 {
		t.Fatalf("behind the last day is %v", at)
	}
}

func TestEachText(t *testing.T) {
	for d := date.Day(0); d <= last; d++ {
		s := d.Text()
		if want := model(d).Format("2006-01-02"); s != want {
			t.Fatalf("%d is told %q, want %q", d, s, want)
		}
		if back, err := date.Read(s); back != d || err != nil {
			t.Fatalf("%q is read %d, %v, want %d", s, back, err, d)
		}
	}
}

func TestKnownDays(t *testing.T) {
	for _, x := range []struct {
		d    date.Day
		s    string
		week int
	}{
		{0, "0001-01-01", 0}, {1, "0001-01-02", 1}, {6, "0001-01-07", 6}, {7, "0001-01-08", 0}, {364, "0001-12-31", 0}, {365, "0002-01-01", 1},
		{1153, "0004-02-28", 5}, {1154, "0004-02-29", 6}, {1155, "0004-03-01", 0},
		{577734, "1582-10-14", 3}, {577735, "1582-10-15", 4}, // no gap where the calendar began
		{719162, "1970-01-01", 3}, {730178, "2000-02-29", 1}, {738944, "2024-02-29", 3}, {3652058, "9999-12-31", 4},
	} {
		if x.d.Text() != x.s || x.d.Week() != x.week {
			t.Fatalf("%d is told %q, day %d of the week, want %q, %d", x.d, x.d.Text(), x.d.Week(), x.s, x.week)
		}
		if d, err := date.Read(x.s); d != x.d || err != nil {
			t.Fatalf("%q is read %d, %v, want %d", x.s, d, err, x.d)
		}
	}
}

// P5.1: what isn't Right.

func TestWrongDays(t *testing.T) {
	for _, d := range wrongDays {
		c, err := d.Civil()
		if d.Right() || c != (date.Civil{}) || api.Code(err) != api.ErrArg {
			t.Fatalf("%d: %v, %v, %v", d, d.Right(), c, err)
		}
		if d.Week() != -1 || d.Text() != "" {
			t.Fatalf("%d: day %d of the week, told %q", d, d.Week(), d.Text())
		}
	}
}

func TestWrongCivils(t *testing.T) {
	for _, c := range wrongCivils {
		d, err := c.Number()
		if c.Right() || c.Last() || d != 0 || api.Code(err) != api.ErrArg {
			t.Fatalf("%v: %v, %v, %d, %v", c, c.Right(), c.Last(), d, err)
		}
	}
}

func TestWhichCivilsAreRight(t *testing.T) {
	for _, y := range []int{-400, -1, 0, 1, 2, 4, 1900, 2000, 2023, 2024, 9996, 9999, 10000, 12000} {
		for m := -2; m <= 15; m++ {
			for n := -2; n <= 34; n++ {
				c := date.Civil{Year: y, Month: m, Day: n}
				want := y >= 1 && y <= 9999 && m >= 1 && m <= 12 && n >= 1 && n <= modelLength(y, m)
				if c.Right() != want {
					t.Fatalf("%v is right: %v", c, c.Right())
				}
				if d, err := c.Number(); want && (err != nil || modelCivil(d) != c) || !want && (d != 0 || api.Code(err) != api.ErrArg) {
					t.Fatalf("%v is %d, %v", c, d, err)
				}
				if c.Last() != (want && n == modelLength(y, m)) {
					t.Fatalf("%v is its month's last: %v", c, c.Last())
				}
			}
		}
	}
}

// P5.1: Leap and Length.

func TestLeap(t *testing.T) {
	for y := 1; y <= 9999; y++ {
		if date.Leap(y) != (modelLength(y, 2) == 29) {
			t.Fatalf("%d is a leap year: %v", y, date.Leap(y))
		}
	}
	for y, want := range map[int]bool{4: true, 100: false, 400: true, 1900: false, 2000: true, 2023: false, 2024: true, 2100: false, 9996: true, 9999: false} {
		if date.Leap(y) != want {
			t.Fatalf("%d is a leap year: %v", y, date.Leap(y))
		}
	}
	for _, y := range []int{0, -1, -4, -400, -2000, 10000, 10004, 12000, math.MaxInt, math.MaxInt - 3, math.MinInt, math.MinInt + 4} {
		if date.Leap(y) {
			t.Fatalf("%d is no year, but a leap year", y)
		}
	}
}

func TestLength(t *testing.T) {
	for y := 1; y <= 9999; y++ {
		for m := 1; m <= 12; m++ {
			if got, want := date.Length(y, m), modelLength(y, m); got != want {
				t.Fatalf("Length(%d, %d) = %d, want %d", y, m, got, want)
			}
		}
	}
	for _, x := range [][2]int{{0, 1}, {0, 2}, {-1, 1}, {-4, 2}, {10000, 1}, {10000, 2}, {2024, 0}, {2024, -1}, {2024, 13}, {2024, 14}, {1, 0}, {9999, 13}, {math.MaxInt, 2}, {math.MinInt, 2}, {2024, math.MaxInt}, {2024, math.MinInt}, {math.MinInt, math.MinInt}} {
		if n := date.Length(x[0], x[1]); n != 0 {
			t.Fatalf("Length(%d, %d) = %d", x[0], x[1], n)
		}
	}
}

// P5.2: Read of what is no text of a day.

func wantNoText(t *testing.T, s string) {
	t.Helper()
	if d, err := date.Read(s); d != 0 || api.Code(err) != api.ErrText {
		t.Fatalf("Read(%q) = %d, error %d", s, d, api.Code(err))
	}
}

func TestReadOfNoSuchText(t *testing.T) {
	for _, s := range []string{
		"", "-", "--", "2024", "2024-01", "2024-01-", "2024-1-1", "2024-01-1", "2024-1-01", "24-01-01", "024-01-01", "02024-01-01", "2024-001-01", "2024-01-001", "2024-01-011", "12024-01-01", "10000-01-01",
		"0000-01-01", "0000-02-29", "0000-12-31", "2024-00-01", "2024-13-01", "2024-99-01", "2024-01-00", "2024-01-32", "2024-02-30", "2023-02-29", "1900-02-29", "2024-04-31", "9999-12-32", "9999-13-01",
		"2024/01/01", "2024.01.01", "2024-01/01", "2024/01-01", "2024 01 01", "2024001001", "2024x01x01", "20240101", "2024--1-01", "2024-01--1", "-024-01-01", "+024-01-01", "2024-+1-01", "2024-01-+1", " 024-01-01", "2024- 1-01", "2024-01- 1", "2_24-01-01",
		" 2024-01-01", "2024-01-01 ", "2024-01-01\n", "2024-01-01\x00", "2024-01-01-", "-2024-01-01", "2024-01-01T00:00", "2024-01-0a", "2024-0a-01", "a024-01-01", "0x24-01-01", "2e10-01-01", "01-01-2024", "2024-Jan-1",
		"\u0662\u0660\u0662\u0664-01-01", "\u066224-01-01", "2024\u20101-1", "2024\u201301-01", "\xff\xff\xff\xff\xff\xff\xff\xff\xff\xff", "\x00\x00\x00\x00-\x00\x00-\x00\x00", "2024-01-0\xb1",
		strings.Repeat("9", 10), strings.Repeat("-", 10), strings.Repeat("0", 1000), strings.Repeat("2024-01-01", 2),
	} {
		wantNoText(t, s)
	}
}

// TestReadOfTurnedTexts puts each byte at each place of a text: what is read is what the library's calendar reads, from year 1 on.
func TestReadOfTurnedTexts(t *testing.T) {
	for _, s := range []string{"2024-02-29", "0001-01-01", "9999-12-31", "2023-11-30", "1900-02-28"} {
		for k := range len(s) {
			wantNoText(t, s[:k]+s[k+1:])
			for b := range 256 {
				turned := s[:k] + string([]byte{byte(b)}) + s[k+1:]
				want, err := time.Parse("2006-01-02", turned)
				if err != nil || want.Year() < 1 {
					wantNoText(t, turned)
				} else if d, err := date.Read(turned); err != nil || !model(d).Equal(want) {
					t.Fatalf("Read(%q) = %d, %v", turned, d, err)
				}
				wantNoText(t, s[:k]+string([]byte{byte(b)})+s[k:])
			}
		}
	}
}

// P5.2: Months and Last.

// modelMonths counts the months from the year 1's first one on; false: the year isn't one.
func modelMonths(c date.Civil, n int) (date.Civil, bool) {
	first := time.Date(c.Year, time.Month(c.Month+n), 1, 0, 0, 0, 0, time.UTC)
	if first.Year() < 1 || first.Year() > 9999 {
		return date.Civil{}, false
	}
	y, m := first.Year(), int(first.Month())
	return date.Civil{Year: y, Month: m, Day: min(c.Day, modelLength(y, m))}, true
}

func wantMonths(t *testing.T, c date.Civil, n int) {
	t.Helper()
	want, ok := modelMonths(c, n)
	got, err := c.Months(n)
	if !ok {
		if got != (date.Civil{}) || api.Code(err) != api.ErrOver {
			t.Fatalf("%v and %d months: %v, error %d, where it is over", c, n, got, api.Code(err))
		}
		return
	}
	if got != want || err != nil {
		t.Fatalf("%v and %d months: %v, %v, want %v", c, n, got, err, want)
	}
}

func TestMonths(t *testing.T) {
	r := rand.New(rand.NewSource(8))
	for _, d := range someDays() {
		c := modelCivil(d)
		for n := -50; n <= 50; n++ {
			wantMonths(t, c, n)
		}
		for range 200 {
			wantMonths(t, c, r.Intn(260000)-130000)
		}
	}
}

func TestMonthsAtTheEnds(t *testing.T) {
	for _, d := range someDays() {
		c := modelCivil(d)
		back, on := 12*(c.Year-1)+c.Month-1, 12*(9999-c.Year)+12-c.Month
		for _, n := range []int{-back - 13, -back - 2, -back - 1, -back, -back + 1, on - 1, on, on + 1, on + 2, on + 13} {
			wantMonths(t, c, n)
		}
		for _, n := range []int{math.MaxInt, math.MaxInt - 1, math.MinInt, math.MinInt + 1, math.MaxInt32, math.MinInt32, math.MaxInt - 120000, math.MinInt + 120000, 1 << 33, -1 << 33} {
			if got, err := c.Months(n); got != (date.Civil{}) || api.Code(err) != api.ErrOver {
				t.Fatalf("%v and %d months: %v, %v", c, n, got, err)
			}
		}
	}
}

func TestMonthsExamples(t *testing.T) {
	for _, x := range []struct {
		from string
		n    int
		to   string
	}{
		{"2024-01-31", 1, "2024-02-29"}, {"2023-01-31", 1, "2023-02-28"}, {"2023-01-29", 1, "2023-02-28"}, {"2023-01-28", 1, "2023-02-28"}, {"2024-01-31", 2, "2024-03-31"}, {"2024-01-31", 3, "2024-04-30"},
		{"2024-01-31", 0, "2024-01-31"}, {"2024-02-29", 12, "2025-02-28"}, {"2024-02-29", 48, "2028-02-29"}, {"2024-02-29", -12, "2023-02-28"}, {"2024-02-29", 1, "2024-03-29"}, {"2023-02-28", 1, "2023-03-28"},
		{"2024-03-31", -1, "2024-02-29"}, {"2024-01-15", -1, "2023-12-15"}, {"2023-12-15", 1, "2024-01-15"}, {"2023-12-31", -12, "2022-12-31"}, {"2000-02-29", 1200, "2100-02-28"},
		{"9999-11-30", 1, "9999-12-30"}, {"0001-02-28", -1, "0001-01-28"}, {"0001-01-31", 119987, "9999-12-31"}, {"9999-12-31", -119987, "0001-01-31"},
	} {
		if got := months(t, x.from, x.n).Text(); got != x.to {
			t.Fatalf("%s and %d months: %s, want %s", x.from, x.n, got, x.to)
		}
	}
}

func months(t *testing.T, from string, n int) date.Day {
	t.Helper()
	d, err := date.Read(from)
	if err != nil {
		t.Fatal(from, err)
	}
	c, err := d.Civil()
	if err != nil {
		t.Fatal(from, err)
	}
	if c, err = c.Months(n); err != nil {
		t.Fatal(from, n, err)
	}
	if d, err = c.Number(); err != nil {
		t.Fatal(from, n, err)
	}
	return d
}

func TestMonthsOfWrongCivils(t *testing.T) {
	for _, c := range wrongCivils {
		for _, n := range []int{0, 1, -1, 12, -12, 200000, -200000, math.MaxInt, math.MinInt} { // ahead of ErrOver
			if got, err := c.Months(n); got != (date.Civil{}) || api.Code(err) != api.ErrArg {
				t.Fatalf("%v and %d months: %v, %v", c, n, got, err)
			}
		}
	}
}

func TestWhatIsDoneWithADateLeavesIt(t *testing.T) {
	c := date.Civil{Year: 2024, Month: 1, Day: 31}
	for range 2 {
		c.Months(1)
		c.Number()
		c.Last()
		if n, err := c.Months(1); c != (date.Civil{Year: 2024, Month: 1, Day: 31}) || n != (date.Civil{Year: 2024, Month: 2, Day: 29}) || err != nil {
			t.Fatalf("%v %v %v", c, n, err)
		}
	}
}
