package span_test

import (
	"math"
	"math/rand"
	"strings"
	"testing"
	"time"

	"arrears/api"
	"arrears/date"
	"arrears/span"
)

const last = date.Day(api.MaxDay)

var bases = []byte{span.Actual, span.Thirty}

// wrongDays are none of the days that there are.
var wrongDays = []date.Day{-1, -2, -365, last + 1, last + 2, math.MinInt32, math.MaxInt32}

// model is the day's date by the library's calendar.
func model(d date.Day) (int, int, int) {
	y, m, n := time.Date(1, 1, 1+int(d), 0, 0, 0, 0, time.UTC).Date()
	return y, int(m), n
}

func day(t *testing.T, s string) date.Day {
	t.Helper()
	d, err := date.Read(s)
	if err != nil {
		t.Fatal(s, err)
	}
	return d
}

// modelThirty is Days of Thirty, word by word.
func modelThirty(from, to date.Day) int {
	y1, m1, d1 := model(from)
	y2, m2, d2 := model(to)
	if d1 == 31 {
		d1 = 30
	}
	if d2 == 31 && d1 == 30 {
		d2 = 30
	}
	return 360*(y2-y1) + 30*(m2-m1) + d2 - d1
}

func wantDays(t *testing.T, basis byte, from, to date.Day, want int) {
	t.Helper()
	if n, err := span.Days(basis, from, to); n != want || err != nil {
		t.Fatalf("Days(%d, %s, %s) = %d, %v, want %d", basis, from.Text(), to.Text(), n, err, want)
	}
}

func wantNoDays(t *testing.T, basis byte, from, to date.Day) {
	t.Helper()
	if n, err := span.Days(basis, from, to); n != 0 || api.Code(err) != api.ErrArg {
		t.Fatalf("Days(%d, %d, %d) = %d, %v", basis, from, to, n, err)
	}
}

func wantNotOne(t *testing.T, basis byte, d date.Day) {
	t.Helper()
	if n, err := span.One(basis, d); n != 0 || api.Code(err) != api.ErrArg {
		t.Fatalf("One(%d, %d) = %d, %v", basis, d, n, err)
	}
}

// P6.1: Days.

func TestDaysOfEachPairOfTwoYears(t *testing.T) {
	first := day(t, "2023-01-01")
	for from := first; from < first+731; from++ {
		for to := from; to < first+731; to += 1 + (to-from)/40 {
			wantDays(t, span.Actual, from, to, int(to)-int(from))
			wantDays(t, span.Thirty, from, to, modelThirty(from, to))
		}
	}
}

func TestDaysOfFarDays(t *testing.T) {
	r := rand.New(rand.NewSource(9))
	for range 20000 {
		from := date.Day(r.Intn(api.MaxDay + 1))
		to := from + date.Day(r.Intn(int(last-from)+1))
		wantDays(t, span.Actual, from, to, int(to)-int(from))
		wantDays(t, span.Thirty, from, to, modelThirty(from, to))
		if from < to {
			wantNoDays(t, span.Actual, to, from)
			wantNoDays(t, span.Thirty, to, from)
		}
	}
}

func TestDaysExamples(t *testing.T) {
	for _, x := range []struct {
		from, to       string
		actual, thirty int
	}{
		{"2023-02-28", "2023-03-01", 1, 3}, {"2024-02-28", "2024-03-01", 2, 3}, {"2024-02-29", "2024-03-01", 1, 2}, {"2023-02-27", "2023-02-28", 1, 1},
		{"2024-01-29", "2024-01-31", 2, 2}, {"2024-01-30", "2024-01-31", 1, 0}, {"2024-01-31", "2024-01-31", 0, 0}, {"2024-01-30", "2024-01-30", 0, 0}, {"2024-01-31", "2024-02-01", 1, 1}, {"2024-01-30", "2024-02-01", 2, 1},
		{"2024-01-01", "2024-01-31", 30, 30}, {"2024-01-01", "2024-02-01", 31, 30}, {"2024-01-15", "2024-03-31", 76, 76}, {"2024-01-29", "2024-03-31", 62, 62}, {"2024-01-30", "2024-03-31", 61, 60}, {"2024-01-31", "2024-03-31", 60, 60}, {"2024-01-31", "2024-03-30", 59, 60},
		{"2024-02-29", "2024-03-31", 31, 32}, {"2023-02-28", "2023-03-31", 31, 33}, {"2024-01-31", "2024-02-29", 29, 29}, {"2023-01-31", "2023-02-28", 28, 28}, {"2023-12-31", "2024-01-31", 31, 30}, {"2023-12-31", "2024-01-01", 1, 1},
		{"2023-01-01", "2024-01-01", 365, 360}, {"2024-01-01", "2025-01-01", 366, 360}, {"2023-11-15", "2024-02-10", 87, 85}, {"0001-01-01", "0001-01-01", 0, 0}, {"0001-01-01", "9999-12-31", 3652058, 3599640}, {"9999-12-31", "9999-12-31", 0, 0}, {"9999-12-30", "9999-12-31", 1, 0},
	} {
		wantDays(t, span.Actual, day(t, x.from), day(t, x.to), x.actual)
		wantDays(t, span.Thirty, day(t, x.from), day(t, x.to), x.thirty)
	}
}

func TestDaysOfWrongArguments(t *testing.T) {
	for _, basis := range bases {
		for _, d := range wrongDays {
			wantNoDays(t, basis, d, 700000)
			wantNoDays(t, basis, 700000, d)
			wantNoDays(t, basis, 0, d)
			wantNoDays(t, basis, d, last)
			wantNoDays(t, basis, d, d)
		}
		wantNoDays(t, basis, 1, 0)
		wantNoDays(t, basis, last, 0)
		wantNoDays(t, basis, last, last-1)
		wantNoDays(t, basis, day(t, "2024-01-31"), day(t, "2024-01-30")) // of Thirty it would be 0
		wantNoDays(t, basis, math.MinInt32, math.MaxInt32)
		wantNoDays(t, basis, math.MaxInt32, math.MinInt32)
	}
	for b := range 256 {
		if basis := byte(b); basis != span.Actual && basis != span.Thirty {
			wantNoDays(t, basis, 1, 2)
			wantNoDays(t, basis, 2, 2)
			wantNoDays(t, basis, 2, 1)
			wantNoDays(t, basis, -1, last+1)
		}
	}
}

// P6.1, P6.3: One.

// modelOne is what d adds to the days from its month's first one on.
func modelOne(d date.Day) int {
	_, _, n := model(d)
	first := d - date.Day(n-1)
	return modelThirty(first, d+1) - modelThirty(first, d)
}

func TestOneOfEachDay(t *testing.T) {
	sum, year := 0, 1
	for d := date.Day(0); d < last; d++ {
		n, err := span.One(span.Actual, d)
		if n != 1 || err != nil {
			t.Fatalf("One(Actual, %s) = %d, %v", d.Text(), n, err)
		}
		n, err = span.One(span.Thirty, d)
		if err != nil || n < 0 || n > 3 {
			t.Fatalf("One(Thirty, %s) = %d, %v", d.Text(), n, err)
		}
		if y, m, k := model(d); m == 1 && k == 1 && y > 1 {
			if sum != 360 {
				t.Fatalf("One of all days of the year %d: %d", year, sum)
			}
			sum, year = 0, y
		}
		sum += n
	}
	if n := modelThirty(last, last); sum != 360+n || year != 9999 {
		t.Fatalf("One of all days of the last year: %d", sum)
	}
}

func TestOneIsWhatADayAdds(t *testing.T) {
	for _, y := range []string{"0001", "0004", "1899", "1900", "2000", "2023", "2024", "2100", "9998"} {
		first := day(t, y+"-01-01")
		for d := first; d < first+400; d++ {
			if n, err := span.One(span.Thirty, d); n != modelOne(d) || err != nil {
				t.Fatalf("One(Thirty, %s) = %d, %v, want %d", d.Text(), n, err, modelOne(d))
			}
		}
	}
}

func TestOneExamples(t *testing.T) {
	for s, want := range map[string]int{
		"2024-01-01": 1, "2024-01-29": 1, "2024-01-30": 1, "2024-01-31": 0, "2024-02-01": 1, "2024-02-27": 1, "2024-02-28": 1, "2024-02-29": 2, "2023-02-27": 1, "2023-02-28": 3, "1900-02-28": 3, "2000-02-28": 1, "2000-02-29": 2,
		"2024-03-30": 1, "2024-03-31": 0, "2024-04-29": 1, "2024-04-30": 1, "2024-12-30": 1, "2024-12-31": 0, "0001-01-01": 1, "0001-01-31": 0, "9999-12-01": 1, "9999-12-30": 1,
	} {
		if n, err := span.One(span.Thirty, day(t, s)); n != want || err != nil {
			t.Fatalf("One(Thirty, %s) = %d, %v, want %d", s, n, err, want)
		}
		if n, err := span.One(span.Actual, day(t, s)); n != 1 || err != nil {
			t.Fatalf("One(Actual, %s) = %d, %v", s, n, err)
		}
	}
}

func TestOneOfWrongArguments(t *testing.T) {
	for _, basis := range bases {
		for _, d := range append([]date.Day{last}, wrongDays...) {
			wantNotOne(t, basis, d)
		}
	}
	for b := range 256 {
		if basis := byte(b); basis != span.Actual && basis != span.Thirty {
			wantNotOne(t, basis, 0)
			wantNotOne(t, basis, 738000)
			wantNotOne(t, basis, last)
			wantNotOne(t, basis, -1)
		}
	}
}

// P6.1: Year. P6.2: Name and Basis.

func TestYearNameAndBasis(t *testing.T) {
	if span.Actual != 1 || span.Thirty != 2 {
		t.Fatal(span.Actual, span.Thirty)
	}
	for b := range 256 {
		year, name := 0, ""
		switch b {
		case 1:
			year, name = 365, "actual"
		case 2:
			year, name = 360, "thirty"
		}
		if got := span.Year(byte(b)); got != year {
			t.Fatalf("Year(%d) = %d", b, got)
		}
		if got := span.Name(byte(b)); got != name {
			t.Fatalf("Name(%d) = %q", b, got)
		}
		if name != "" && span.Basis(name) != byte(b) {
			t.Fatalf("Basis(%q) = %d", name, span.Basis(name))
		}
	}
}

func TestBasisOfOtherNames(t *testing.T) {
	for _, s := range []string{"", " ", "0", "1", "2", "Actual", "Thirty", "ACTUAL", "actual ", " actual", "thirty\n", "thirt", "thirtyy", "actua", "actualthirty", "30/360", "thirty/360", "\x00actual", "actual\x00", "\xff", strings.Repeat("actual", 1000)} {
		if b := span.Basis(s); b != 0 {
			t.Fatalf("Basis(%q) = %d", s, b)
		}
	}
}
