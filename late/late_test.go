package late_test

import (
	"math"
	"math/big"
	"math/rand"
	"slices"
	"testing"

	"arrears/api"
	"arrears/coin"
	"arrears/date"
	"arrears/late"
)

const (
	most   = coin.Coin(math.MaxInt64)
	fewest = coin.Coin(math.MinInt64)
)

var (
	two   = []late.Due{{Day: 10, Sum: 100}, {Day: 40, Sum: 200}}
	sums  = []coin.Coin{0, 1, 2, 99, 100, 101, 200, api.MaxMoney, most - 1, most, -1, -2, -100, fewest + 1, fewest, most / 2, fewest / 2}
	days  = []date.Day{0, 1, 9, 10, 11, 39, 40, 41, 700000, api.MaxDay - 1, api.MaxDay, -1, api.MaxDay + 1, math.MaxInt32, math.MinInt32}
	lists = []([]late.Due){
		nil, {}, two,
		{{Day: 10, Sum: 0}}, {{Day: 0, Sum: 1}}, {{Day: 10, Sum: most}}, {{Day: 10, Sum: fewest}}, {{Day: -1, Sum: 1}}, {{Day: math.MinInt32, Sum: 1}}, {{Day: math.MaxInt32, Sum: 1}},
		{{Day: 10, Sum: 100}, {Day: 40, Sum: 100}, {Day: 41, Sum: 100}},
		{{Day: 40, Sum: 200}, {Day: 10, Sum: 100}}, // days and sums that fall
		{{Day: 10, Sum: 200}, {Day: 40, Sum: 100}}, // sums that fall
		{{Day: 40, Sum: 100}, {Day: 10, Sum: 200}}, // days that fall
		{{Day: 10, Sum: 100}, {Day: 10, Sum: 300}, {Day: 10, Sum: 200}},
		{{Day: 1, Sum: 100}, {Day: 2, Sum: 99}, {Day: 3, Sum: 101}, {Day: 4, Sum: 98}, {Day: 5, Sum: 200}, {Day: 6, Sum: 97}},
		{{Day: 9, Sum: most}, {Day: 9, Sum: 101}, {Day: 9, Sum: fewest}},
		{{Day: 9, Sum: -100}, {Day: 10, Sum: -1}, {Day: 11, Sum: 0}},
		{{Day: 9, Sum: fewest}, {Day: 10, Sum: -100}},
	}
)

// each goes through lists and amounts: all edges, and any.
func each(do func(l []late.Due, paid coin.Coin)) {
	for _, l := range lists {
		for _, paid := range sums {
			do(l, paid)
		}
	}
	g := rand.New(rand.NewSource(20))
	for range 3000 {
		l := make([]late.Due, g.Intn(9))
		for k := range l {
			l[k] = late.Due{Day: date.Day(g.Intn(60)), Sum: coin.Coin(g.Intn(30) - 5)}
		}
		do(l, coin.Coin(g.Intn(35)-8))
	}
	for range 1000 {
		l := make([]late.Due, g.Intn(5))
		for k := range l {
			l[k] = late.Due{Day: days[g.Intn(len(days))], Sum: sums[g.Intn(len(sums))]}
		}
		do(l, sums[g.Intn(len(sums))])
	}
}

// modelOldest is Oldest, word by word; -1: there is none.
func modelOldest(l []late.Due, paid coin.Coin) int {
	for k := range l {
		if l[k].Sum > paid {
			return k
		}
	}
	return -1
}

func modelSince(l []late.Due, paid coin.Coin, today date.Day) int {
	k := modelOldest(l, paid)
	if k < 0 || l[k].Day >= today {
		return 0
	}
	return int(int64(today) - int64(l[k].Day))
}

// modelBehind leaves out what has another day, or a difference over 64 bits; of what is left it takes the greatest Sum.
func modelBehind(l []late.Due, paid coin.Coin, today date.Day) coin.Coin {
	found := []coin.Coin{}
	for _, d := range l {
		if d.Day < today && new(big.Int).Sub(big.NewInt(int64(d.Sum)), big.NewInt(int64(paid))).IsInt64() {
			found = append(found, d.Sum)
		}
	}
	if len(found) == 0 || slices.Max(found) <= paid {
		return 0
	}
	return slices.Max(found) - paid
}

// P12.1: Oldest.

func TestOldest(t *testing.T) {
	each(func(l []late.Due, paid coin.Coin) {
		k, ok := late.Oldest(l, paid)
		want := modelOldest(l, paid)
		if ok != (want >= 0) || k != max(want, 0) {
			t.Fatalf("Oldest(%v, %d) = %d, %v, want %d", l, paid, k, ok, want)
		}
	})
}

func TestOldestExamples(t *testing.T) {
	for _, x := range []struct {
		paid coin.Coin
		k    int
		ok   bool
	}{{fewest, 0, true}, {-1, 0, true}, {0, 0, true}, {99, 0, true}, {100, 1, true}, {101, 1, true}, {199, 1, true}, {200, 0, false}, {201, 0, false}, {most, 0, false}} {
		if k, ok := late.Oldest(two, x.paid); k != x.k || ok != x.ok {
			t.Fatalf("Oldest of %d paid = %d, %v", x.paid, k, ok)
		}
	}
	for _, l := range [][]late.Due{nil, {}} {
		if k, ok := late.Oldest(l, fewest); k != 0 || ok {
			t.Fatal(k, ok)
		}
	}
}

func TestOldestIsTheFirstWhateverStandsBehindIt(t *testing.T) {
	for n := 1; n <= 70; n++ {
		for at := range n {
			l := make([]late.Due, n)
			for k := range l {
				l[k] = late.Due{Day: date.Day(n - k), Sum: 50}
				if k == at || k > at && k%3 == 0 {
					l[k].Sum = 51
				}
			}
			if k, ok := late.Oldest(l, 50); k != at || !ok {
				t.Fatalf("Oldest(%v, 50) = %d, %v, want %d", l, k, ok, at)
			}
		}
	}
}

// P12.1: Since.

func TestSince(t *testing.T) {
	each(func(l []late.Due, paid coin.Coin) {
		for _, today := range days {
			if got, want := late.Since(l, paid, today), modelSince(l, paid, today); got != want {
				t.Fatalf("Since(%v, %d, %d) = %d, want %d", l, paid, today, got, want)
			}
		}
	})
}

func TestSinceExamples(t *testing.T) {
	for _, x := range []struct {
		paid  coin.Coin
		today date.Day
		want  int
	}{
		{100, 45, 5}, {99, 45, 35}, {200, 45, 0}, {199, 45, 5}, {0, 10, 0}, {0, 11, 1}, {0, 9, 0}, {0, 0, 0}, {100, 11, 0}, {100, 40, 0}, {100, 41, 1}, {0, 40, 30}, {0, api.MaxDay, api.MaxDay - 10}, {0, -5, 0},
	} {
		if got := late.Since(two, x.paid, x.today); got != x.want {
			t.Fatalf("Since of %d paid, day %d: %d, want %d", x.paid, x.today, got, x.want)
		}
	}
}

func TestSinceOfDaysFarApart(t *testing.T) {
	for _, x := range []struct {
		day, today date.Day
		want       int
	}{
		{math.MinInt32, math.MaxInt32, 1<<32 - 1}, {math.MinInt32, 0, 1 << 31}, {-1, math.MaxInt32, 1 << 31}, {0, math.MaxInt32, math.MaxInt32}, {math.MaxInt32, math.MinInt32, 0}, {math.MaxInt32, -1, 0}, {0, math.MinInt32, 0}, {1, math.MinInt32, 0}, {-7, -5, 2},
	} {
		l := []late.Due{{Day: x.day, Sum: 1}}
		if got := late.Since(l, 0, x.today); got != x.want {
			t.Fatalf("from %d to %d: %d days, want %d", x.day, x.today, got, x.want)
		}
	}
}

// P12.1: Behind.

func TestBehind(t *testing.T) {
	each(func(l []late.Due, paid coin.Coin) {
		for _, today := range days {
			if got, want := late.Behind(l, paid, today), modelBehind(l, paid, today); got != want {
				t.Fatalf("Behind(%v, %d, %d) = %d, want %d", l, paid, today, got, want)
			}
		}
	})
}

func TestBehindExamples(t *testing.T) {
	for _, x := range []struct {
		paid  coin.Coin
		today date.Day
		want  coin.Coin
	}{
		{50, 45, 150}, {50, 41, 150}, {50, 40, 50}, {50, 11, 50}, {50, 10, 0}, {50, 0, 0}, {100, 40, 0}, {101, 40, 0}, {99, 40, 1}, {100, 41, 100}, {200, 99, 0}, {201, 99, 0}, {most, 99, 0}, {-1, 99, 201}, {0, api.MaxDay, 200}, {0, -1, 0},
	} {
		if got := late.Behind(two, x.paid, x.today); got != x.want {
			t.Fatalf("Behind of %d paid, day %d: %d, want %d", x.paid, x.today, got, x.want)
		}
	}
}

func TestBehindLeavesOutWhatIsOver(t *testing.T) {
	for _, x := range []struct {
		l    []late.Due
		paid coin.Coin
		want coin.Coin
	}{
		{[]late.Due{{Day: 1, Sum: most}}, 0, most},
		{[]late.Due{{Day: 1, Sum: most}}, -1, 0},
		{[]late.Due{{Day: 1, Sum: most - 1}}, -1, most},
		{[]late.Due{{Day: 1, Sum: most}, {Day: 2, Sum: 5}}, -1, 6}, // the greatest of the others
		{[]late.Due{{Day: 1, Sum: 5}, {Day: 2, Sum: most}}, -1, 6},
		{[]late.Due{{Day: 1, Sum: most}, {Day: 2, Sum: -2}}, -1, 0},
		{[]late.Due{{Day: 1, Sum: 0}, {Day: 2, Sum: -1}}, fewest, most},
		{[]late.Due{{Day: 1, Sum: fewest}, {Day: 2, Sum: most}}, most, 0},
		{[]late.Due{{Day: 1, Sum: fewest}, {Day: 2, Sum: 9}}, 8, 1}, // a difference below 64 bits isn't one above paid
		{[]late.Due{{Day: 1, Sum: fewest}}, 1, 0},
		{[]late.Due{{Day: 1, Sum: fewest + 1}}, fewest, 1},
	} {
		if got := late.Behind(x.l, x.paid, 10); got != x.want {
			t.Fatalf("Behind(%v, %d, 10) = %d, want %d", x.l, x.paid, got, x.want)
		}
	}
}

func TestListsAreLeft(t *testing.T) {
	room := []late.Due{{Day: 40, Sum: 200}, {Day: 10, Sum: 100}, {Day: 20, Sum: 150}, {Day: 5, Sum: 1}, {Day: 1, Sum: 9}}
	was := slices.Clone(room)
	for range 2 {
		late.Oldest(room[:3], 100)
		late.Since(room[:3], 100, 45)
		late.Behind(room[:3], 50, 45)
		if !slices.Equal(room, was) {
			t.Fatal(room)
		}
	}
}

// P12.2: Bucket and Name.

func modelBucket(n int) byte {
	for k, first := range []int{1, 30, 60, 90} {
		if n < first {
			return byte(k)
		}
	}
	return 4
}

func TestBucket(t *testing.T) {
	for n := -1000; n <= 4000; n++ {
		if got, want := late.Bucket(n), modelBucket(n); got != want {
			t.Fatalf("Bucket(%d) = %d, want %d", n, got, want)
		}
	}
	for n, want := range map[int]byte{
		-1: late.Current, 0: late.Current, 1: late.Grace, 29: late.Grace, 30: late.Thirty, 59: late.Thirty, 60: late.Sixty, 89: late.Sixty, 90: late.Ninety,
		math.MaxInt32: 4, 1 << 31: 4, 1 << 32: 4, 1<<32 + 1: 4, math.MaxInt: 4, math.MinInt32: 0, -1 << 32: 0, -1<<32 + 45: 0, math.MinInt: 0, math.MinInt + 30: 0,
	} {
		if got := late.Bucket(n); got != want {
			t.Fatalf("Bucket(%d) = %d, want %d", n, got, want)
		}
	}
}

func TestTheBuckets(t *testing.T) {
	if late.Current != 0 || late.Grace != 1 || late.Thirty != 2 || late.Sixty != 3 || late.Ninety != 4 {
		t.Fatal("buckets")
	}
}

func TestName(t *testing.T) {
	names := []string{"current", "grace", "thirty", "sixty", "ninety"}
	for n := range 256 {
		want := ""
		if n < len(names) {
			want = names[n]
		}
		if got := late.Name(byte(n)); got != want {
			t.Fatalf("Name(%d) = %q, want %q", n, got, want)
		}
	}
}
