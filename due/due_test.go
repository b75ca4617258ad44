package due_test

import (
	"math"
	"math/rand"
	"slices"
	"testing"
	"time"

	"arrears/api"
	"arrears/date"
	"arrears/due"
)

const last = date.Day(api.MaxDay)

// wrongDays are none of the days that there are.
var wrongDays = []date.Day{-1, -2, -7, -365, last + 1, last + 2, last + 366, math.MinInt32, math.MinInt32 + 1, math.MaxInt32 - 1, math.MaxInt32}

// wrongMonths are none of 0 to MaxTerms.
var wrongMonths = []int{-1, -2, -12, -481, api.MaxTerms + 1, api.MaxTerms + 2, 1 << 33, -1 << 33, math.MaxInt32, math.MinInt32, math.MaxInt, math.MinInt}

func day(t *testing.T, s string) date.Day {
	t.Helper()
	d, err := date.Read(s)
	if err != nil {
		t.Fatal(s, err)
	}
	return d
}

// number is a date's day by the library's calendar.
func number(year, month, n int) date.Day {
	first := time.Date(1, 1, 1, 0, 0, 0, 0, time.UTC).Unix()
	return date.Day((time.Date(year, time.Month(month), n, 0, 0, 0, 0, time.UTC).Unix() - first) / (24 * 60 * 60))
}

// modelPlain is Plain of right arguments by the library's calendar; false: the year is above 9999.
func modelPlain(start date.Day, k int) (date.Day, bool) {
	at := time.Date(1, 1, 1+int(start), 0, 0, 0, 0, time.UTC)
	month := at.Year()*12 + int(at.Month()) - 1 + k
	year, month := month/12, month%12+1
	end := number(year, month+1, 0)
	to := min(number(year, month, 1)+date.Day(at.Day()-1), end)
	if at.AddDate(0, 0, 1).Day() == 1 {
		to = end
	}
	return to, year <= 9999
}

// modelOpen and modelNext are Open and Next, word by word.
func modelOpen(h due.Holy, d date.Day) bool {
	if d < 0 || d > last || d%7 == 5 || d%7 == 6 {
		return false
	}
	for _, x := range h {
		if x == d {
			return false
		}
	}
	return true
}

func modelNext(h due.Holy, d date.Day) (date.Day, bool) {
	for ; d <= last; d++ {
		if modelOpen(h, d) {
			return d, true
		}
	}
	return 0, false
}

func wantDay(t *testing.T, what string, got date.Day, err error, want date.Day) {
	t.Helper()
	if got != want || err != nil {
		t.Fatalf("%s: %s (%d), %v, want %s", what, got.Text(), got, err, want.Text())
	}
}

func wantError(t *testing.T, what string, got date.Day, err error, want api.Errno) {
	t.Helper()
	if got != 0 || api.Code(err) != want {
		t.Fatalf("%s: %d, %v (%d), want the error %d", what, got, err, api.Code(err), want)
	}
}

// rising is n days in a row, each second one left out.
func rising(first date.Day, n int) due.Holy {
	h := due.Holy{}
	for k := range n {
		h = append(h, first+date.Day(2*k))
	}
	return h
}

// inRow is n days in a row.
func inRow(first date.Day, n int) due.Holy {
	h := due.Holy{}
	for k := range n {
		h = append(h, first+date.Day(k))
	}
	return h
}

// P7.1: Right.

func TestRight(t *testing.T) {
	for _, x := range []struct {
		h    due.Holy
		want bool
	}{
		{nil, true}, {due.Holy{}, true}, {due.Holy{0}, true}, {due.Holy{last}, true}, {due.Holy{0, last}, true}, {due.Holy{5, 6}, true}, {due.Holy{5, 9, 700000}, true},
		{due.Holy{5, 5}, false}, {due.Holy{6, 5}, false}, {due.Holy{1, 2, 3, 3}, false}, {due.Holy{1, 1, 2, 3}, false}, {due.Holy{1, 3, 2, 4}, false}, {due.Holy{2, 1, 3, 4}, false}, {due.Holy{1, 2, 4, 3}, false}, {due.Holy{0, 0}, false}, {due.Holy{last, last}, false}, {due.Holy{last, 0}, false},
		{due.Holy{-1}, false}, {due.Holy{-1, 0}, false}, {due.Holy{0, -1}, false}, {due.Holy{-2, -1, 5}, false}, {due.Holy{last + 1}, false}, {due.Holy{last, last + 1}, false}, {due.Holy{1, 2, math.MaxInt32}, false}, {due.Holy{math.MinInt32, 1, 2}, false},
	} {
		if got := x.h.Right(); got != x.want {
			t.Fatalf("%v is right: %v", x.h, got)
		}
	}
}

func TestRightOfMany(t *testing.T) {
	for n, want := range map[int]bool{1: true, 199: true, 200: true, 201: false, 202: false, 400: false, 100000: false} {
		if got := rising(700000, n).Right(); got != want {
			t.Fatalf("%d days are right: %v", n, got)
		}
	}
	for k := range 200 { // a fault is found wherever it is
		same, less, below, above := rising(700000, 200), rising(700000, 200), rising(700000, 200), rising(700000, 200)
		same[k] = 700000 + 2*date.Day((k+1)%200)
		less[k], below[k], above[k] = 5, -1, last+1
		if same.Right() || less.Right() != (k == 0) || below.Right() || above.Right() {
			t.Fatalf("a fault at %d is right", k)
		}
	}
}

// P7.1: Open.

func TestOpenOnEachDayOfTheWeek(t *testing.T) {
	monday := day(t, "2024-01-01")
	for k := range 7 {
		d := monday + date.Day(k)
		if due.Holy(nil).Open(d) != (k < 5) || (due.Holy{}).Open(d) != (k < 5) || (due.Holy{d - 1, d + 1}).Open(d) != (k < 5) || (due.Holy{d}).Open(d) {
			t.Fatalf("day %d of the week", k)
		}
	}
}

func TestOpen(t *testing.T) {
	h := due.Holy{1, 3, day(t, "2024-01-01"), day(t, "2024-04-01"), day(t, "2024-12-25"), last}
	twisted := due.Holy{last, day(t, "2024-12-25"), 3, -1, day(t, "2024-04-01"), 1, 1, last + 3, day(t, "2024-01-01"), 3}
	days := append(inRow(0, 40), inRow(day(t, "2023-12-01"), 500)...)
	for _, d := range append(days, inRow(last-40, 41)...) {
		if h.Open(d) != modelOpen(h, d) || twisted.Open(d) != modelOpen(h, d) { // of one that isn't right just as of its days
			t.Fatalf("%s is open: %v, %v", d.Text(), h.Open(d), twisted.Open(d))
		}
	}
	for _, d := range wrongDays {
		if h.Open(d) || due.Holy(nil).Open(d) || (due.Holy{d}).Open(d) {
			t.Fatalf("%d is open", d)
		}
	}
}

// P7.1: Next.

func TestNextOfTheWeek(t *testing.T) {
	for from, want := range map[string]string{
		"2024-01-04": "2024-01-04", "2024-01-05": "2024-01-05", "2024-01-06": "2024-01-08", "2024-01-07": "2024-01-08", "2024-01-08": "2024-01-08",
		"0001-01-01": "0001-01-01", "0001-01-06": "0001-01-08", "2024-06-29": "2024-07-01", "2022-12-31": "2023-01-02", "9999-12-31": "9999-12-31",
	} {
		d, err := due.Holy(nil).Next(day(t, from))
		wantDay(t, "Next of "+from, d, err, day(t, want))
	}
}

func TestNextIsTheFirstThatIsOpen(t *testing.T) {
	r := rand.New(rand.NewSource(7))
	for range 300 {
		first := date.Day(r.Intn(int(last) - 400))
		h := due.Holy{}
		for range r.Intn(200) {
			h = append(h, first+date.Day(r.Intn(150)))
		}
		sorted := slices.Clone(h)
		slices.Sort(sorted)
		sorted = slices.Compact(sorted)
		if !sorted.Right() {
			t.Fatal(sorted)
		}
		for d := first - min(first, 3); d < first+160; d++ {
			want, _ := modelNext(h, d)
			got, err := sorted.Next(d)
			wantDay(t, "Next of "+d.Text(), got, err, want)
			got, err = h.Next(d) // of one that isn't right just as of its days
			wantDay(t, "Next of twisted days, "+d.Text(), got, err, want)
		}
	}
}

func TestNextPastDaysThatAreNone(t *testing.T) {
	friday := day(t, "2024-03-29")
	for _, h := range []due.Holy{
		{friday, friday + 3}, {friday + 3, friday}, {friday, friday, friday + 3, friday + 3}, {-5, friday, friday + 3, last + 9}, {friday + 3, math.MaxInt32, friday, math.MinInt32}, {friday - 1, friday, friday + 3, friday + 5},
	} {
		d, err := h.Next(friday)
		wantDay(t, "Next", d, err, friday+4)
	}
}

func TestNextAtTheLastDay(t *testing.T) { // a Friday
	for d := last - 4; d <= last; d++ {
		got, err := due.Holy{d}.Next(d)
		if d < last {
			wantDay(t, "Next", got, err, d+1)
		} else {
			wantError(t, "Next", got, err, api.ErrOver)
		}
		got, err = inRow(d, int(last-d)+1).Next(d)
		wantError(t, "Next", got, err, api.ErrOver)
		got, err = inRow(d+1, int(last-d)).Next(d)
		wantDay(t, "Next", got, err, d)
	}
	got, err := inRow(last-199, 200).Next(last - 199)
	wantError(t, "Next", got, err, api.ErrOver)
	got, err = inRow(last-199, 200).Next(last - 200) // a Monday
	wantDay(t, "Next", got, err, last-200)
}

func TestNextOfWrongDays(t *testing.T) {
	for _, d := range wrongDays {
		for _, h := range []due.Holy{nil, {}, {d}, {5, 6}, inRow(last-9, 10)} {
			got, err := h.Next(d)
			wantError(t, "Next", got, err, api.ErrArg)
		}
	}
}

func TestNextOfVeryMany(t *testing.T) {
	h := inRow(0, int(last))
	d, err := h.Next(0)
	wantDay(t, "Next", d, err, last)
	slices.Reverse(h)
	d, err = h.Next(0)
	wantDay(t, "Next", d, err, last)
	d, err = append(h, last).Next(0)
	wantError(t, "Next", d, err, api.ErrOver)
	if h.Right() || h.Open(700000) || !h.Open(last) {
		t.Fatal("very many")
	}
}

// P7.2: Plain.

func TestPlainOfEachMonth(t *testing.T) {
	starts := append(inRow(day(t, "2022-12-28"), 800), inRow(0, 62)...)
	for _, s := range []string{"1899-12-31", "1900-02-28", "1999-02-28", "2000-02-28", "2000-02-29", "2096-02-29", "2100-02-28", "9958-12-31", "9959-01-01", "9959-12-30", "9959-12-31"} {
		starts = append(starts, day(t, s))
	}
	for _, start := range starts {
		for k := 0; k <= api.MaxTerms; k++ {
			d, err := due.Plain(start, k)
			want, _ := modelPlain(start, k)
			wantDay(t, start.Text()+" and months", d, err, want)
		}
	}
}

func TestPlainExamples(t *testing.T) {
	for _, x := range []struct {
		start string
		k     int
		want  string
	}{
		{"2023-02-28", 1, "2023-03-31"}, {"2023-02-28", 12, "2024-02-29"}, {"2023-02-28", 0, "2023-02-28"}, {"2023-02-28", 2, "2023-04-30"}, {"2024-02-28", 1, "2024-03-28"}, {"2024-02-29", 1, "2024-03-31"}, {"2024-02-29", 12, "2025-02-28"},
		{"2024-01-31", 0, "2024-01-31"}, {"2024-01-31", 1, "2024-02-29"}, {"2024-01-31", 2, "2024-03-31"}, {"2024-01-31", 13, "2025-02-28"}, {"2024-01-30", 1, "2024-02-29"}, {"2024-01-30", 2, "2024-03-30"}, {"2024-01-29", 13, "2025-02-28"},
		{"2024-04-30", 1, "2024-05-31"}, {"2024-04-29", 1, "2024-05-29"}, {"2024-12-31", 2, "2025-02-28"}, {"2024-12-15", 1, "2025-01-15"}, {"0001-01-01", 480, "0041-01-01"}, {"2024-01-31", 480, "2064-01-31"}, {"2024-02-29", 480, "2064-02-29"},
		{"9959-12-31", 480, "9999-12-31"}, {"9999-12-31", 0, "9999-12-31"}, {"9999-11-30", 1, "9999-12-31"},
	} {
		d, err := due.Plain(day(t, x.start), x.k)
		wantDay(t, x.start+" and months", d, err, day(t, x.want))
	}
}

func TestPlainBehindTheLastYear(t *testing.T) {
	for _, s := range []string{"9960-01-01", "9960-01-31", "9980-06-15", "9999-01-31", "9999-11-30", "9999-12-01", "9999-12-31"} {
		for k := range api.MaxTerms + 1 {
			d, err := due.Plain(day(t, s), k)
			if want, ok := modelPlain(day(t, s), k); ok {
				wantDay(t, s+" and months", d, err, want)
			} else {
				wantError(t, s+" and months", d, err, api.ErrOver)
			}
		}
	}
}

func TestPlainOfWrongArguments(t *testing.T) {
	for _, start := range wrongDays {
		for _, k := range append([]int{0, 1, 12, api.MaxTerms}, wrongMonths...) {
			d, err := due.Plain(start, k)
			wantError(t, "Plain", d, err, api.ErrArg)
		}
	}
	for _, k := range wrongMonths {
		for _, start := range []date.Day{0, 700000, last - 40, last} { // ahead of ErrOver
			d, err := due.Plain(start, k)
			wantError(t, "Plain", d, err, api.ErrArg)
		}
	}
}

// P7.2: Rolled.

func TestRolledIsNextOfPlain(t *testing.T) {
	h := due.Holy{}
	for year := 2024; year < 2040; year++ {
		h = append(h, number(year, 1, 1), number(year, 1, 2), number(year, 5, 1), number(year, 12, 25), number(year, 12, 26), number(year, 12, 31))
	}
	if !h.Right() {
		t.Fatal(h)
	}
	twisted := slices.Clone(h)
	slices.Reverse(twisted)
	for _, start := range inRow(day(t, "2023-12-20"), 400) {
		for k := 0; k <= 200; k++ {
			plain, _ := modelPlain(start, k)
			for _, x := range []due.Holy{nil, h, twisted} {
				want, _ := modelNext(x, plain)
				d, err := due.Rolled(x, start, k)
				wantDay(t, start.Text()+", rolled", d, err, want)
			}
		}
	}
}

func TestRolledExamples(t *testing.T) {
	start, holy := day(t, "2024-01-31"), due.Holy{day(t, "2024-04-01")}
	d, err := due.Rolled(holy, start, 2) // a Sunday, a holy Monday
	wantDay(t, "rolled", d, err, day(t, "2024-04-02"))
	d, err = due.Rolled(nil, start, 2)
	wantDay(t, "rolled", d, err, day(t, "2024-04-01"))
	d, err = due.Rolled(holy, start, 3) // from what is plain, not from what was rolled
	wantDay(t, "rolled", d, err, day(t, "2024-04-30"))
	d, err = due.Rolled(holy, day(t, "2024-04-01"), 0)
	wantDay(t, "rolled", d, err, day(t, "2024-04-02"))
}

func TestRolledErrors(t *testing.T) {
	for _, x := range []struct {
		h     due.Holy
		start date.Day
		k     int
		want  api.Errno
	}{
		{nil, -1, 1, api.ErrArg}, {nil, last + 1, 0, api.ErrArg}, {nil, 700000, -1, api.ErrArg}, {nil, 700000, 481, api.ErrArg}, {nil, last, 481, api.ErrArg}, {due.Holy{last}, last, -1, api.ErrArg}, {nil, math.MinInt32, math.MinInt, api.ErrArg},
		{nil, last, 1, api.ErrOver}, {nil, last - 400, 480, api.ErrOver}, {due.Holy{last}, last, 0, api.ErrOver}, {due.Holy{last}, day(t, "9999-11-30"), 1, api.ErrOver}, {inRow(last-9, 10), last - 7, 0, api.ErrOver}, {due.Holy{5, 4, last}, day(t, "9959-12-31"), 480, api.ErrOver},
	} {
		d, err := due.Rolled(x.h, x.start, x.k)
		wantError(t, "Rolled", d, err, x.want)
	}
}

// P7.2: Count.

// modelCount is Count, month by month.
func modelCount(start date.Day, n int, d date.Day) int {
	count := 0
	for k := 1; k <= n && k <= 480 && start >= 0 && start <= last; k++ {
		if at, ok := modelPlain(start, k); ok && at <= d {
			count++
		}
	}
	return count
}

func wantCount(t *testing.T, start date.Day, n int, d date.Day) {
	t.Helper()
	if got, want := due.Count(start, n, d), modelCount(start, n, d); got != want {
		t.Fatalf("Count(%d, %d, %d) = %d, want %d", start, n, d, got, want)
	}
}

func TestCountAroundEachDay(t *testing.T) {
	for _, s := range []string{"0001-01-01", "2023-02-28", "2024-01-31", "2024-02-29", "2024-07-15", "9959-12-31", "9990-01-31"} {
		start := day(t, s)
		for _, k := range []int{0, 1, 2, 11, 12, 13, 120, 479, 480} {
			at, ok := modelPlain(start, k)
			if !ok {
				at = last
			}
			for _, n := range []int{0, 1, k - 1, k, k + 1, 12, 480} {
				for d := at - 2; d <= at+2; d++ {
					wantCount(t, start, n, d)
				}
			}
		}
	}
}

func TestCountOfSome(t *testing.T) {
	r := rand.New(rand.NewSource(7))
	for range 2000 {
		start := date.Day(r.Intn(int(last) + 1))
		wantCount(t, start, r.Intn(500)-10, start+date.Day(r.Intn(16000)-500))
	}
}

func TestCountExamples(t *testing.T) {
	start := day(t, "2024-01-31")
	for _, x := range []struct {
		n    int
		d    string
		want int
	}{
		{12, "2024-01-31", 0}, {12, "2024-02-28", 0}, {12, "2024-02-29", 1}, {12, "2024-03-30", 1}, {12, "2024-03-31", 2}, {12, "2025-01-30", 11}, {12, "2025-01-31", 12}, {12, "2025-02-28", 12}, {12, "9999-12-31", 12}, {12, "0001-01-01", 0}, {1, "2030-01-01", 1}, {0, "2030-01-01", 0}, {480, "9999-12-31", 480}, {480, "2064-01-30", 479}, {480, "2064-01-31", 480},
	} {
		if got := due.Count(start, x.n, day(t, x.d)); got != x.want {
			t.Fatalf("%d months, %s: %d, want %d", x.n, x.d, got, x.want)
		}
	}
}

func TestCountOfManyOrNoMonths(t *testing.T) {
	start := day(t, "2024-01-31")
	for n, want := range map[int]int{0: 0, -1: 0, -480: 0, math.MinInt: 0, 479: 479, 480: 480, 481: 480, 1000: 480, math.MaxInt: 480} {
		if got := due.Count(start, n, last); got != want {
			t.Fatalf("Count of %d months: %d, want %d", n, got, want)
		}
	}
}

func TestCountLeavesOutErrors(t *testing.T) {
	if got := due.Count(day(t, "9999-10-31"), 480, last); got != 2 {
		t.Fatal(got)
	}
	if got := due.Count(last, 480, last); got != 0 {
		t.Fatal(got)
	}
	for _, start := range wrongDays {
		for _, d := range []date.Day{-1, 0, 700000, last, math.MaxInt32} {
			if got := due.Count(start, 480, d); got != 0 {
				t.Fatalf("Count of the start %d: %d", start, got)
			}
		}
	}
}

func TestCountOfDaysThatAreNone(t *testing.T) {
	for _, d := range wrongDays {
		want := 0
		if d > last { // all are ahead of it
			want = 12
		}
		if got := due.Count(700000, 12, d); got != want {
			t.Fatalf("Count up to %d: %d, want %d", d, got, want)
		}
	}
}

// What is handed in isn't changed, its spare room neither.

func TestHolyIsLeft(t *testing.T) {
	room := due.Holy{9, 700003, 5, 5, 700000, 7, 8}
	was := slices.Clone(room)
	h := room[:5]
	for range 2 {
		h.Right()
		h.Open(700000)
		if d, err := h.Next(700000); err != nil || !modelOpen(was[:5], d) {
			t.Fatal(d, err)
		}
		if _, err := due.Rolled(h, 700000, 0); err != nil {
			t.Fatal(err)
		}
		if !slices.Equal(room, was) {
			t.Fatal(room)
		}
	}
}
