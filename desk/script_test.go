package desk_test

import (
	"fmt"
	"slices"
	"strings"
	"testing"

	"arrears/api"
	"arrears/bank"
	"arrears/coin"
	"arrears/date"
	"arrears/desk"
	"arrears/order"
	"arrears/terms"
)

// hundred is a loan of 12 times 100.00, without interest, from 2024-01-31 on: the first is due on 2024-02-29.
const hundred = "board 1 level 1200.00 0 actual 12 2024-01-31 15.00 10"

// days is the batches that close so many days of one loan.
func days(n int) []string {
	return slices.Repeat([]string{"batch 2"}, n)
}

// P22.1: what each line is answered.

func TestASession(t *testing.T) {
	wantScript(t, `
		today | error 3
		make 2024-01-31 | ok
		board 1 level 1200.00 60000 actual 12 2024-01-31 15.00 10 | ok
		left | 1
		batch 1 | 1 open
		left | 0
		batch 9 | 1 closed
		today | 2024-02-01
		left | 1
		state 1 | active 0.00 0.19 1200.00 0.00 0.00 current
		entries 1 | 2 2
		pay 1 1 2024-01-31 600.19 | ok
		state 1 | active 0.00 0.09 599.81 0.00 600.19 current
		entries 1 | 3 5
		balance cash | -599.81
		balance principal | 599.81
		balance interest | 0.09
		balance fees | 0.00
		balance suspense | 0.00
		balance income | -0.09
		balance charges | 0.00
		balance loss | 0.00
		balance recovered | 0.00
		gen | 1
		orders | 4
		commit | ok
		fall - | ok
		orders | 4
		snapshot | ok
		gen | 2
		orders | 0
		entries 1 | 3 5
		reverse 1 1 | ok
		state 1 | active 0.00 0.19 1200.00 0.00 0.00 current
		entries 1 | 2 8
		balance cash | -1200.00`)
}

func TestMake(t *testing.T) {
	for _, day := range []string{"0001-01-01", "2024-02-29", date.Day(terms.MaxStart).Text()} {
		if got := run(t, "make "+day, "today", "left", "gen", "orders", "balance cash"); !slices.Equal(got, []string{"ok", day, "0", "1", "0", "0.00"}) {
			t.Fatalf("make %s: %q", day, got)
		}
	}
	for _, day := range []string{date.Day(terms.MaxStart + 1).Text(), "9999-12-31"} {
		if got := run(t, "make "+day, "today"); !slices.Equal(got, []string{"error 1", "error 3"}) {
			t.Fatalf("make %s: %q", day, got)
		}
	}
	wantScript(t, `
		make 2024-01-31 | ok
		`+hundred+` | ok
		snapshot | ok
		make 2024-02-01 | ok
		today | 2024-02-01
		gen | 1
		state 1 | error 3
		fall - | ok
		today | 2024-02-01
		gen | 1
		state 1 | error 3`)
}

// Christmas of 2024 is a Wednesday: what is due on it is due on it.
func TestMakeIsWithoutHolidays(t *testing.T) {
	wantScript(t, `
		make 2024-11-25 | ok
		board 1 level 1200.00 0 actual 1 2024-11-25 0.00 0 | ok
		`+strings.Repeat("batch 2 | 2 closed\n", 30)+`
		today | 2024-12-25
		state 1 | active 0.00 0.00 1200.00 0.00 0.00 current
		batch 2 | 2 closed
		today | 2024-12-26
		state 1 | active 0.00 0.00 1200.00 0.00 0.00 grace`)
}

func TestStates(t *testing.T) {
	wantScript(t, `
		make 2024-01-31 | ok
		`+hundred+` | ok
		board 2 level 1200.00 60000 actual 12 2024-01-31 15.00 10 | ok
		state 1 | active 0.00 0.00 1200.00 0.00 0.00 current
		fee 1 1 2024-01-31 7.05 | ok
		state 1 | active 7.05 0.00 1200.00 0.00 0.00 current
		waive 1 2 2024-01-31 2.00 | ok
		state 1 | active 5.05 0.00 1200.00 0.00 0.00 current
		batch 9 | 3 closed
		state 2 | active 0.00 0.19 1200.00 0.00 0.00 current
		pay 1 3 2024-02-01 5.00 | ok
		state 1 | active 0.05 0.00 1200.00 0.00 5.00 current
		pay 1 4 2024-02-01 1300.06 | ok
		state 1 | closed 0.00 0.00 0.00 100.01 1305.06 current
		balance suspense | -100.01
		off 2 1 2024-02-01 | ok
		state 2 | lost 0.00 0.00 0.00 0.00 0.00 current
		balance loss | 1200.19
		pay 2 2 2024-02-01 10000000000.00 | ok
		state 2 | lost 0.00 0.00 0.00 0.00 10000000000.00 current
		balance recovered | -10000000000.00
		reverse 1 4 | ok
		state 1 | active 0.05 0.00 1200.00 0.00 5.00 current
		state 3 | error 3`)
}

func TestBuckets(t *testing.T) {
	lines := []string{"make 2024-01-31", hundred}
	for _, c := range []struct {
		days int // since the first due day
		want string
	}{
		{0, "current"}, {1, "grace"}, {29, "grace"}, {30, "thirty"}, {59, "thirty"}, {60, "sixty"}, {89, "sixty"}, {90, "ninety"}, {110, "ninety"},
	} {
		got := last(t, slices.Concat(lines, days(29+c.days), []string{"state 1"})...)
		if words := strings.Fields(got); words[0] != "active" || words[6] != c.want {
			t.Fatalf("%d days late: %s, want %s", c.days, got, c.want)
		}
	}
	got := last(t, slices.Concat(lines, days(29+90), []string{"pay 1 1 2024-05-29 430.00", "state 1"})...)
	if got != "active 0.00 0.00 815.00 0.00 430.00 current" {
		t.Fatal(got)
	}
}

func TestBatch(t *testing.T) {
	wantScript(t, `
		make 2024-01-31 | ok
		batch 0 | 0 open
		today | 2024-01-31
		batch 1 | 1 closed
		today | 2024-02-01
		batch 9 | 1 closed
		board 3 level 1200.00 0 actual 12 2024-02-02 15.00 10 | ok
		board 1 level 1200.00 0 actual 12 2024-02-02 15.00 10 | ok
		board 2 level 1200.00 0 actual 12 2024-02-02 15.00 10 | ok
		batch 2 | 2 open
		left | 1
		entries 1 | 2 5
		entries 3 | 1 5
		batch 0 | 0 open
		batch 1 | 1 open
		left | 0
		batch 1 | 1 closed
		left | 3
		batch 2147483647 | 4 closed
		today | 2024-02-04
		batch 3 | 3 open
		batch 2147483647 | 1 closed
		today | 2024-02-05
		orders | 17`)
}

func TestABatchCommits(t *testing.T) {
	for _, batch := range []string{"batch 0", "batch 1", "batch 9"} {
		for _, fall := range []string{"fall -", "fall 000", "tear - 0", "tear 00 9"} {
			lines := []string{"make 2024-01-31", hundred, batch, "orders", "state 1", "left", "today"}
			got := run(t, slices.Concat(lines, []string{fall}, lines[3:])...)
			if !slices.Equal(got[3:7], got[8:]) || got[7] != "ok" {
				t.Fatalf("%s, %s: %q", batch, fall, got)
			}
		}
	}
}

// full is a script of 298 orders, as many as there is room for, less some.
func full(less int) []string {
	lines := []string{"make 2024-01-31", hundred}
	return append(lines, slices.Repeat([]string{"batch 1"}, 297-less)...)
}

func TestABatchThatHasAnErrorIsAnsweredByIt(t *testing.T) {
	for _, c := range []struct {
		room  int
		batch string
	}{{0, "batch 1"}, {0, "batch 9"}, {1, "batch 2"}, {1, "batch 9"}} {
		lines := full(c.room)
		got := run(t, append(lines, "orders", c.batch, "batch 0", "orders", "fall -", "orders")...)[len(lines):]
		want := []string{fmt.Sprint(298 - c.room), "error 6", "0 open", "298", "ok", "298"}
		if !slices.Equal(got, want) {
			t.Fatalf("room of %d, %s: %q, want %q", c.room, c.batch, got, want)
		}
	}
	if got := last(t, append(full(1), "batch 1")...); got != "1 open" {
		t.Fatal(got)
	}
	lastDay := date.Day(terms.MaxStart).Text()
	wantScript(t, `
		make `+lastDay+` | ok
		batch 0 | 0 open
		batch 1 | error 11
		orders | 0
		board 1 level 1200.00 0 actual 12 `+lastDay+` 0.00 0 | ok
		batch 1 | 1 open
		batch 1 | error 11
		fall - | ok
		orders | 2
		today | `+lastDay)
}

func TestNoRoom(t *testing.T) {
	// The bank's own errors are told first.
	lines := append(full(0), "today", "orders", "gen", "pay 1 1 2024-01-31 1.00", hundred, "pay 1 1 2024-06-27 1.00", "commit", "orders")
	got := run(t, append(lines, "snapshot", "gen", "orders", "pay 1 1 2024-06-27 1.00", "orders")...)[len(full(0)):]
	want := []string{"2024-06-27", "298", "1", "error 11", "error 10", "error 6", "ok", "298", "ok", "2", "0", "ok", "1"}
	if !slices.Equal(got, want) {
		t.Fatalf("%q, want %q", got, want)
	}
}

func TestASnapshotThatHasNoRoom(t *testing.T) {
	// Each payment of a month ago reverses what was accrued since, and posts it anew.
	lines := []string{"make 2024-01-31", "board 1 only 9000.00 1000000 actual 12 2024-01-31 15.00 10"}
	lines = append(lines, days(29)...)
	b, err := bank.New(738915, nil)
	if err != nil {
		t.Fatal(err)
	}
	obey(t, b, lines[1])
	for b.Today() < 738915+29 {
		obey(t, b, "step")
	}
	seen := map[string]int{}
	for k := range 100 {
		if k%10 == 0 || k > 44 && k < 82 {
			want := []string{"1", "ok", "2"}
			if n := len(b.Bytes()); n > api.MaxRecord {
				want = []string{"1", "error 4", "1"}
			} else if (n+8+253)/254 > 299 {
				want = []string{"1", "error 6", "1"}
			}
			seen[want[1]]++
			got := run(t, append(lines, "gen", "snapshot", "gen", "state 1", "fall -", "state 1", "gen")...)[len(lines):]
			if !slices.Equal(got[:3], want) || got[6] != want[2] || want[1] == "ok" && got[3] != got[5] {
				t.Fatalf("%d bytes: %q, want %q", len(b.Bytes()), got, want)
			}
		}
		pay := fmt.Sprintf("pay 1 %d 2024-01-31 10.00", k)
		lines = append(lines, pay)
		obey(t, b, pay)
	}
	if len(seen) != 3 {
		t.Fatal(seen)
	}
}

// obey does an order's text to a bank.
func obey(t *testing.T, b *bank.Bank, text string) {
	t.Helper()
	o, err := order.Read(text)
	if err != nil {
		t.Fatalf("%s: error %d", text, api.Code(err))
	}
	if _, _, err := o.Do(b); err != nil {
		t.Fatalf("%s: error %d", text, api.Code(err))
	}
}

func TestErrors(t *testing.T) {
	wantScript(t, `
		make 2024-01-31 | ok
		`+hundred+` | ok
		`+hundred+` | error 10
		board 2 level 1200.00 0 actual 12 2024-02-01 15.00 10 | error 11
		board 2 level 1200.00 0 actual 12 2024-01-30 15.00 10 | error 11
		pay 2 1 2024-01-31 1.00 | error 3
		reverse 2 1 | error 3
		reverse 1 1 | error 3
		pay 1 1 2024-02-01 1.00 | error 11
		pay 1 1 2024-01-30 1.00 | error 11
		fee 1 1 2024-01-31 1.00 | ok
		pay 1 1 2024-01-31 1.00 | error 10
		reverse 1 1 | error 1
		pay 1 2 2024-01-31 1.00 | ok
		reverse 1 2 | ok
		reverse 1 2 | error 14
		pay 1 2 2024-01-31 1.00 | error 10
		pay 1 3 2024-01-31 1201.00 | ok
		state 1 | closed 0.00 0.00 0.00 0.00 1201.00 current
		pay 1 4 2024-01-31 1.00 | error 9
		fee 1 4 2024-01-31 1.00 | error 9
		off 1 4 2024-01-31 | error 9
		reverse 1 3 | ok
		off 1 4 2024-01-31 | ok
		fee 1 5 2024-01-31 1.00 | error 14
		pay 1 5 2024-01-31 1.00 | ok
		orders | 8`)
}

func TestTooManyEvents(t *testing.T) {
	lines := []string{"make 2024-01-31", hundred}
	for k := range api.MaxEvents {
		lines = append(lines, fmt.Sprintf("fee 1 %d 2024-01-31 0.01", k))
		if k%250 == 249 {
			lines = append(lines, "snapshot")
		}
	}
	got := run(t, append(lines, "fee 1 500 2024-01-31 0.01", "fee 1 5 2024-01-31 0.01", "state 1", "entries 1")...)
	want := []string{"error 13", "error 10", "active 5.00 0.00 1200.00 0.00 0.00 current", "501 501"}
	if got := got[len(lines):]; !slices.Equal(got, want) {
		t.Fatalf("%q, want %q", got, want)
	}
}

// fall and tear.

func TestFalls(t *testing.T) {
	// Three orders, each of one sector, that aren't committed, behind one that is.
	lines := []string{"make 2024-01-31", hundred, "commit", "fee 1 1 2024-01-31 1.00", "fee 1 2 2024-01-31 0.10", "fee 1 3 2024-01-31 0.01"}
	for _, c := range []struct{ line, fees string }{
		{"open", "1.11"},
		{"fall -", "0.00"}, {"fall 0", "0.00"}, {"fall 000", "0.00"}, {"fall 011", "0.00"}, {"fall 0000001", "0.00"},
		{"fall 1", "1.00"}, {"fall 10", "1.00"}, {"fall 100", "1.00"}, {"fall 101", "1.00"},
		{"fall 11", "1.10"}, {"fall 110", "1.10"}, {"fall 1100", "1.10"}, {"fall 1101", "1.10"},
		{"fall 111", "1.11"}, {"fall 1110", "1.11"}, {"fall 1111", "1.11"}, {"fall 111" + strings.Repeat("01", 4000), "1.11"},
		{"tear - 0", "0.00"}, {"tear - 256", "0.00"}, {"tear 1 0", "0.00"}, {"tear 1 1", "0.00"}, {"tear 1 255", "0.00"},
		{"tear 1 256", "1.00"}, {"tear 1 257", "1.00"}, {"tear 1 2147483647", "1.00"}, {"tear 10 0", "0.00"},
		{"tear 11 0", "1.00"}, {"tear 11 255", "1.00"}, {"tear 11 256", "1.10"}, {"tear 101 0", "1.00"},
		{"tear 111 0", "1.10"}, {"tear 111 5", "1.10"}, {"tear 111 255", "1.10"}, {"tear 111 256", "1.11"}, {"tear 111 999", "1.11"},
		{"tear 1111 5", "1.10"}, {"tear 1110 5", "1.10"}, {"tear 011 0", "0.00"},
	} {
		got := run(t, slices.Concat(lines, []string{c.line, "state 1", "commit", "fall -", "state 1"})...)[len(lines):]
		state := "active " + c.fees + " 0.00 1200.00 0.00 0.00 current"
		if want := []string{"ok", state, "ok", "ok", state}; !slices.Equal(got, want) {
			t.Fatalf("%.20s: %q, want %q", c.line, got, want)
		}
	}
}

func TestAFallIsNotArmed(t *testing.T) {
	for _, line := range []string{"fall -", "fall 1", "tear - 0", "tear 1 7"} {
		wantScript(t, `
			make 2024-01-31 | ok
			arm 1 | ok
			`+hundred+` | ok
			commit | error 8
			`+line+` | ok
			commit | ok
			fee 1 1 2024-01-31 1.00 | `+map[bool]string{true: "ok", false: "error 3"}[line == "fall 1"]+`
			snapshot | ok
			gen | 2`)
	}
}

func TestOpenIsOfTheSameDrum(t *testing.T) {
	wantScript(t, `
		make 2024-01-31 | ok
		`+hundred+` | ok
		open | ok
		orders | 1
		arm 0 | ok
		commit | error 8
		open | ok
		orders | 1
		commit | error 8
		arm 1 | ok
		commit | error 8
		open | ok
		commit | ok
		commit | error 8
		fall - | ok
		orders | 1`)
}

// arm.

func TestArm(t *testing.T) {
	wantScript(t, `
		make 2024-01-31 | ok
		arm 3 | ok
		`+hundred+` | ok
		commit | ok
		fee 1 1 2024-01-31 1.00 | ok
		fee 1 2 2024-01-31 1.00 | error 8
		commit | error 8
		snapshot | error 8
		batch 0 | error 8
		batch 1 | error 8
		fee 1 1 2024-01-31 1.00 | error 10
		reverse 1 1 | error 1
		arm 9 | ok
		commit | error 8
		today | 2024-01-31
		left | 1
		gen | 1
		orders | 2
		state 1 | active 1.00 0.00 1200.00 0.00 0.00 current
		entries 1 | 2 2
		balance fees | 1.00
		what | error 15
		fall - | ok
		state 1 | active 0.00 0.00 1200.00 0.00 0.00 current
		orders | 1
		arm 2147483647 | ok
		fee 1 1 2024-01-31 1.00 | ok
		commit | ok`)
}

// What fails leaves no server, but the drum.

func TestAMakeThatFails(t *testing.T) {
	for _, line := range []string{"open", "fall -", "fall 1", "tear - 0"} {
		wantScript(t, `
			make 2024-01-31 | ok
			`+hundred+` | ok
			commit | ok
			make 9999-12-31 | error 1
			today | error 3
			commit | error 3
			orders | error 3
			balance cash | error 3
			`+hundred+` | error 3
			make 9999-12-31 | error 1
			`+line+` | ok
			today | 2024-01-31
			orders | 1`)
	}
	wantScript(t, `
		make 2024-01-31 | ok
		arm 0 | ok
		make 2024-02-01 | error 8
		today | error 3
		make 2024-02-01 | error 8
		open | ok
		today | 2024-01-31
		make 2024-02-01 | error 8
		arm 99 | ok
		today | error 3
		make 2024-02-01 | ok
		today | 2024-02-01
		fall - | ok
		today | 2024-02-01`)
}

func TestOpensThatFail(t *testing.T) {
	// Of a Make on a drum of noughts, the first steps are a Flush, the record, a Flush, the head; one more, ahead of them, if there is a record.
	wantScript(t, `
		arm 3 | ok
		make 2024-01-31 | error 8
		open | error 3
		today | error 3
		fall 1 | error 3
		arm 5 | ok
		make 2024-01-31 | error 8
		open | ok
		today | 2024-01-31
		tear 1 5 | error 5
		today | error 3
		open | error 5
		commit | error 3
		fall - | error 5
		fall 1 | error 5
		tear 11 9 | error 5
		left | error 3
		make 2024-01-31 | ok
		left | 0`)
	// Of one that has a server, they are noughts for the head, and for the record.
	for _, c := range []struct{ keep, want string }{{"01", "error 2"}, {"10", "error 3"}, {"11", "error 3"}, {"00", "ok"}} {
		got := run(t, "make 2024-01-31", "arm 2", "make 2024-02-01", "fall "+c.keep, "today", "open", "fall -", "tear - 0", "make 2024-02-02", "today")
		today := "error 3"
		if c.want == "ok" {
			today = "2024-01-31"
		}
		want := []string{"ok", "ok", "error 8", c.want, today, c.want, c.want, c.want, "ok", "2024-02-02"}
		if !slices.Equal(got, want) {
			t.Fatalf("fall %s: %q, want %q", c.keep, got, want)
		}
	}
}

func TestAnOpenOnADrumThatHasStopped(t *testing.T) {
	// Where all is right, there is nothing to write.
	wantScript(t, `
		make 2024-01-31 | ok
		`+hundred+` | ok
		commit | ok
		fee 1 1 2024-01-31 1.00 | ok
		arm 0 | ok
		open | ok
		orders | 2
		snapshot | error 8
		open | ok
		make 2024-02-01 | error 8
		state 1 | error 3
		open | ok
		state 1 | active 1.00 0.00 1200.00 0.00 0.00 current
		fall 0 | ok
		orders | 1
		state 1 | active 0.00 0.00 1200.00 0.00 0.00 current`)
}

// P3 to P7, by lines.

// money reads the words of a state that tell some.
func money(t *testing.T, word string) coin.Coin {
	t.Helper()
	c, err := coin.Read(word)
	if err != nil {
		t.Fatalf("%q is no money", word)
	}
	return c
}

// P3: wherever the drum stops, the orders that are found are the first of those that there were.
func TestStopsAnywhere(t *testing.T) {
	lines := []string{
		hundred, "fee 1 1 2024-01-31 0.01", "commit", "fee 1 2 2024-01-31 0.02", "fee 1 3 2024-01-31 0.04", "snapshot",
		"fee 1 4 2024-01-31 0.08", "commit", "fee 1 5 2024-01-31 0.16", "fee 1 6 2024-01-31 0.32", "batch 1", "fee 1 7 2024-01-31 0.64",
	}
	// The state behind each number of orders that were done, 0 being none.
	var states []string
	orders := []string{"make 2024-01-31"}
	states = append(states, last(t, append(orders, "state 1")...))
	for _, line := range lines {
		if line != "commit" && line != "snapshot" {
			orders = append(orders, line)
			states = append(states, last(t, append(orders, "state 1")...))
		}
	}
	for steps := range 40 {
		for _, fall := range []string{"fall -", "fall 1", "fall 11", "fall 111", "fall 1111", "fall 01", "fall 101", "tear 1 7", "tear 11 100", "tear 111 255", "tear 1111 1"} {
			got := run(t, slices.Concat([]string{"make 2024-01-31", fmt.Sprint("arm ", steps)}, lines, []string{fall, "state 1"})...)
			wantFirstOf(t, fmt.Sprint("arm ", steps, ", ", fall), lines, got[2:], states)
		}
	}
}

// wantFirstOf holds the last of the answers, a state behind a Fall, against those of the first orders.
func wantFirstOf(t *testing.T, what string, lines, answers, states []string) {
	t.Helper()
	least, most, done := 0, 0, 0
	for k, line := range lines {
		commits := line == "commit" || line == "snapshot" || strings.HasPrefix(line, "batch")
		good := !strings.HasPrefix(answers[k], "error")
		if line != "commit" && line != "snapshot" && (good || answers[k] == "error 8") {
			most = max(most, done+1)
			if good {
				done++
			}
		}
		if good && commits {
			least = done
		}
	}
	if answers[len(lines)] != "ok" {
		t.Fatalf("%s: %s", what, answers[len(lines)])
	}
	got := answers[len(lines)+1]
	if at := slices.Index(states[least:most+1], got); at < 0 {
		t.Fatalf("%s: %s, want one of %q", what, got, states[least:most+1])
	}
}

// P4: whatever crashed, each loan and each day once.
func TestADayBegunAgain(t *testing.T) {
	begin := []string{"make 2024-01-31"}
	for id := range 4 {
		begin = append(begin, fmt.Sprintf("board %d level 1200.00 60000 actual 12 2024-01-31 15.00 10", id))
	}
	begin = append(begin, "commit")
	look := []string{"today", "entries 0", "entries 1", "entries 2", "entries 3", "balance income", "state 3"}
	whole := run(t, slices.Concat(begin, []string{"batch 9"}, look)...)[len(begin)+1:]
	for steps := range 9 {
		for _, fall := range []string{"open", "fall -", "fall 1", "fall 11", "fall 0111", "fall 11111", "tear 111 100", "tear 11111 1"} {
			lines := slices.Concat(begin, []string{fmt.Sprint("arm ", steps), "batch 9", fall, "arm 99"})
			if last(t, append(lines, "today")...) == "2024-01-31" {
				lines = append(lines, "batch 9")
			}
			if got := run(t, append(lines, look...)...)[len(lines):]; !slices.Equal(got, whole) {
				t.Fatalf("arm %d, %s: %q, want %q", steps, fall, got, whole)
			}
		}
	}
}

// P5: the order in which money arrives says nothing.
func TestTheOrderOfMoney(t *testing.T) {
	begin := slices.Concat([]string{"make 2024-01-31", "board 1 level 1200.00 60000 actual 12 2024-01-31 15.00 10"}, days(5))
	events := []string{"pay 1 1 2024-02-01 100.00", "pay 1 2 2024-02-04 50.50", "fee 1 3 2024-02-02 9.99", "waive 1 4 2024-02-03 3.00", "pay 1 5 2024-01-31 0.01"}
	look := []string{"state 1", "balance cash", "balance income", "balance interest", "balance fees", "balance charges"}
	var want []string
	permute(events, func(l []string) {
		got := run(t, slices.Concat(begin, l, look)...)[len(begin)+len(l):]
		if want == nil {
			want = got
		}
		if !slices.Equal(got, want) {
			t.Fatalf("%q: %q, want %q", l, got, want)
		}
	})
}

// permute tells all orders of a list.
func permute(l []string, tell func([]string)) {
	if len(l) < 2 {
		tell(l)
		return
	}
	for k := range l {
		rest := slices.Delete(slices.Clone(l), k, k+1)
		permute(rest, func(m []string) { tell(append([]string{l[k]}, m...)) })
	}
}

// P6: it always balances.
func TestItBalances(t *testing.T) {
	look := []string{
		"balance cash", "balance principal", "balance interest", "balance fees", "balance suspense",
		"balance income", "balance charges", "balance loss", "balance recovered",
	}
	lines := append(session(),
		"fee 1 2 2024-02-01 9.99", "waive 1 3 2024-02-01 1.00", "batch 2", "reverse 1 1", "batch 2",
		"board 2 only 55.55 1000000 thirty 3 2024-02-03 0.05 0", "pay 2 1 2024-02-03 60.00", "batch 9", "off 1 9 2024-02-03", "pay 1 10 2024-02-04 7.77", "fall -")
	for n := range lines {
		var sum coin.Coin
		for _, word := range run(t, append(lines[:n+1:n+1], look...)...)[n+1:] {
			sum += money(t, word)
		}
		if sum != 0 {
			t.Fatalf("behind %s: %s", lines[n], sum.Text())
		}
	}
}

// P7: what is refused changes nothing.
func TestWhatIsRefusedChangesNothing(t *testing.T) {
	refused := []string{
		"what", "", "step", "state 9", "entries 9", "balance nothing", "batch -1", "arm -1", "make 2024-13-01", "fall 3", "tear 1 -",
		"board 1 level 1200.00 60000 actual 12 2024-01-31 15.00 10", "board 9 level 1200.00 60000 actual 12 2000-01-31 15.00 10",
		"pay 1 77 2024-03-31 5.00", "pay 9 1 2024-01-31 5.00", "reverse 1 78", "reverse 9 1", "fee 1 77 2000-01-01 1.00", "off 9 1 2024-01-31",
	}
	lines := append(session(), "state 1", "entries 1", "orders", "left", "reverse 1 1", "batch 5", "snapshot", "gen", "fee 1 5 2024-02-02 1.00", "fall -", "orders", "state 1", "balance cash")
	want := run(t, lines...)
	for _, line := range refused {
		var mixed []string
		for k, l := range lines {
			// Ahead of the loan, to board it is no wrong; ahead of the bank nothing is asked.
			if k > 1 {
				mixed = append(mixed, line)
			}
			mixed = append(mixed, l)
		}
		var got []string
		for k, a := range run(t, mixed...) {
			if k > 1 && k%2 == 0 {
				if !strings.HasPrefix(a, "error ") {
					t.Fatalf("%q: %s", line, a)
				}
				continue
			}
			got = append(got, a)
		}
		if !slices.Equal(got, want) {
			t.Fatalf("with %q: %q, want %q", line, got, want)
		}
	}
}

// P1: whatever the bytes, each line has one answer.
func FuzzRun(f *testing.F) {
	f.Add(strings.Join(session(), "\n"))
	f.Add("make 2024-01-31\narm 3\nmake 2024-01-31\nfall 1\nopen\n")
	f.Add("\n\xff\n \n")
	f.Fuzz(func(t *testing.T, script string) {
		told, err := desk.Run(script)
		if len(script) > api.MaxText {
			if told != "" || api.Code(err) != api.ErrLong {
				t.Fatal(told, err)
			}
			return
		}
		if err != nil || strings.Count(told, "\n") != len(modelLines(script)) {
			t.Fatal(told, err)
		}
	})
}
