package desk_test

import (
	"iter"
	"math/rand"
	"slices"
	"strings"
	"testing"

	"arrears/api"
	"arrears/desk"
)

// run is the answers of a script's lines, one each.
func run(t *testing.T, lines ...string) []string {
	t.Helper()
	script := ""
	for _, line := range lines {
		script += line + "\n"
	}
	told, err := desk.Run(script)
	if err != nil {
		t.Fatalf("Run of %d bytes: error %d", len(script), api.Code(err))
	}
	if told == "" {
		return nil
	}
	if !strings.HasSuffix(told, "\n") {
		t.Fatalf("the last answer has no end: %q", told)
	}
	return strings.Split(strings.TrimSuffix(told, "\n"), "\n")
}

// last is the answer of a script's last line.
func last(t *testing.T, lines ...string) string {
	t.Helper()
	told := run(t, lines...)
	return told[len(told)-1]
}

// wantScript takes rows of a line, a bar, and its answer.
func wantScript(t *testing.T, rows string) {
	t.Helper()
	var lines, want []string
	for _, row := range strings.Split(strings.TrimSpace(rows), "\n") {
		row = strings.TrimSpace(row)
		if row == "" {
			continue
		}
		line, answer, ok := strings.Cut(row, " | ")
		if !ok {
			t.Fatalf("no row: %q", row)
		}
		lines, want = append(lines, line), append(want, answer)
	}
	got := run(t, lines...)
	if len(got) != len(want) {
		t.Fatalf("%d answers of %d lines", len(got), len(want))
	}
	for k, line := range lines {
		if got[k] != want[k] {
			t.Fatalf("line %d, %s: %q, want %q", k, line, got[k], want[k])
		}
	}
}

// P22.1: Lines.

func TestLines(t *testing.T) {
	for _, c := range []struct {
		text string
		want []string
	}{
		{"", nil},
		{"a", []string{"a"}},
		{"a\n", []string{"a"}},
		{"\n", []string{""}},
		{"\n\n", []string{"", ""}},
		{"\na", []string{"", "a"}},
		{"a\n\nb\n", []string{"a", "", "b"}},
		{"a\n\nb", []string{"a", "", "b"}},
		{"a b \n  c\r\n\td\v\x00", []string{"a b ", "  c\r", "\td\v\x00"}},
		{"\xff\n\xc3\n\u2028\u0085", []string{"\xff", "\xc3", "\u2028\u0085"}},
	} {
		if got := slices.Collect(desk.Lines(c.text)); !slices.Equal(got, c.want) {
			t.Fatalf("Lines(%q) = %q, want %q", c.text, got, c.want)
		}
	}
}

// modelLines goes byte by byte.
func modelLines(text string) []string {
	var lines []string
	line, begun := "", false
	for _, c := range []byte(text) {
		if c == 0x0a {
			lines, line, begun = append(lines, line), "", false
			continue
		}
		line, begun = line+string([]byte{c}), true
	}
	if begun {
		lines = append(lines, line)
	}
	return lines
}

func TestLinesAtRandom(t *testing.T) {
	r := rand.New(rand.NewSource(1))
	for range 2000 {
		p := make([]byte, r.Intn(20))
		for k := range p {
			p[k] = "\n\n a\r\xff"[r.Intn(6)]
		}
		if got, want := slices.Collect(desk.Lines(string(p))), modelLines(string(p)); !slices.Equal(got, want) {
			t.Fatalf("Lines(%q) = %q, want %q", p, got, want)
		}
	}
}

func TestLinesOfALongText(t *testing.T) {
	text := strings.Repeat("ab\n", api.MaxText)
	n := 0
	for line := range desk.Lines(text) {
		if line != "ab" {
			t.Fatalf("%q", line)
		}
		n++
	}
	if n != api.MaxText {
		t.Fatal(n)
	}
}

func TestLinesAreToldEachTimeAndNoMoreOnceStopped(t *testing.T) {
	l := desk.Lines("a\nb\nc")
	for range 2 {
		for stop := 1; stop <= 3; stop++ {
			var got []string
			for line := range l {
				got = append(got, line)
				if len(got) == stop {
					break
				}
			}
			if want := []string{"a", "b", "c"}[:stop]; !slices.Equal(got, want) {
				t.Fatalf("%q, want %q", got, want)
			}
		}
	}
	calls := 0
	iter.Seq[string](l)(func(string) bool { calls++; return false })
	if calls != 1 {
		t.Fatalf("%d calls of one that stops", calls)
	}
	var both []string
	for a := range l {
		for b := range l {
			both = append(both, a+b)
		}
	}
	if got := strings.Join(both, " "); got != "aa ab ac ba bb bc ca cb cc" {
		t.Fatal(got)
	}
}

// P22.1: Words.

func TestWords(t *testing.T) {
	want := []string{
		"arm", "balance", "batch", "commit", "entries", "fall", "gen", "left",
		"make", "open", "orders", "snapshot", "state", "tear", "today",
	}
	got := desk.Words()
	if !slices.Equal(got, want) || !slices.IsSorted(got) {
		t.Fatal(got)
	}
	for k := range got[:cap(got)] {
		got[:cap(got)][k] = "was"
	}
	if got := desk.Words(); !slices.Equal(got, want) {
		t.Fatal(got)
	}
}

// forms is a line that there is, by its first word.
func forms() map[string]string {
	return map[string]string{
		"arm": "arm 9", "balance": "balance cash", "batch": "batch 0", "commit": "commit", "entries": "entries 1",
		"fall": "fall -", "gen": "gen", "left": "left", "make": "make 2024-01-31", "open": "open",
		"orders": "orders", "snapshot": "snapshot", "state": "state 1", "tear": "tear - 0", "today": "today",
	}
}

// session is a bank with a loan that has been run, and a payment.
func session() []string {
	return []string{
		"make 2024-01-31", "board 1 level 1200.00 60000 actual 12 2024-01-31 15.00 10",
		"batch 1", "batch 9", "pay 1 1 2024-01-31 600.19", "commit",
	}
}

func TestWordsAreThoseOfTheLinesThatThereAre(t *testing.T) {
	f := forms()
	words := desk.Words()
	if len(f) != len(words) {
		t.Fatalf("%d forms of %d words", len(f), len(words))
	}
	for _, word := range words {
		if got := last(t, append(session(), f[word])...); strings.HasPrefix(got, "error") {
			t.Fatalf("%s: %s", f[word], got)
		}
	}
}

// P22.1: Run.

func TestRunOfNothing(t *testing.T) {
	if told, err := desk.Run(""); told != "" || err != nil {
		t.Fatal(told, err)
	}
}

func TestRunOfALongText(t *testing.T) {
	for _, c := range []struct {
		text string
		n    int // how many answers
	}{
		{strings.Repeat("\n", api.MaxText), api.MaxText},
		{strings.Repeat("\n", api.MaxText-1) + "a", api.MaxText},
		{strings.Repeat("a", api.MaxText), 1},
		{strings.Repeat("\xff\n", api.MaxText/2), api.MaxText / 2},
	} {
		told, err := desk.Run(c.text)
		if err != nil || told != strings.Repeat("error 15\n", c.n) {
			t.Fatalf("%d bytes: %.100q, error %d", len(c.text), told, api.Code(err))
		}
		for _, text := range []string{c.text + "\n", c.text + "a", "\n" + c.text, c.text + c.text} {
			if told, err := desk.Run(text); told != "" || api.Code(err) != api.ErrLong {
				t.Fatalf("%d bytes: %.100q, error %d", len(text), told, api.Code(err))
			}
		}
	}
}

func TestRunsKnowNothingOfEachOther(t *testing.T) {
	script := strings.Join(append(session(), "state 1", "entries 1", "balance principal"), "\n")
	first, _ := desk.Run(script)
	if got := last(t, "today"); got != "error 3" {
		t.Fatalf("the server of an earlier Run: %s", got)
	}
	again, _ := desk.Run(script)
	if first != again || strings.Contains(first, "error") {
		t.Fatalf("%q, then %q", first, again)
	}
}

func TestTheLastLineMayLackItsEnd(t *testing.T) {
	for _, script := range []string{"today", "make 2024-01-31\ntoday", "make 2024-01-31\n\nleft"} {
		with, err1 := desk.Run(script + "\n")
		without, err2 := desk.Run(script)
		if err1 != nil || err2 != nil || with != without {
			t.Fatalf("%q, %q", with, without)
		}
	}
}

// Lines at first, when there is no server.

func TestWithoutAServer(t *testing.T) {
	for _, line := range []string{
		"batch 0", "batch 1", "commit", "snapshot", "fall -", "fall 1", "fall 01", "tear - 0", "tear 1 9", "open",
		"today", "left", "gen", "orders", "state 0", "state 1", "balance cash", "balance loss", "entries 0", "entries 1",
		"board 1 level 1200.00 60000 actual 12 2024-01-31 15.00 10",
		"pay 1 1 2024-01-31 5.00", "fee 1 1 2024-01-31 5.00", "waive 1 1 2024-01-31 5.00", "off 1 1 2024-01-31", "reverse 1 1",
	} {
		if got := last(t, line); got != "error 3" {
			t.Fatalf("%s: %s", line, got)
		}
		// It changes nothing, either.
		if got := last(t, line, "make 2024-01-31", "today"); got != "2024-01-31" {
			t.Fatalf("%s, make, today: %s", line, got)
		}
	}
	wantScript(t, `
		arm 2147483647 | ok
		make 2024-01-31 | ok
		gen | 1`)
}

// Any other line.

// others are lines that there aren't.
func others() []string {
	l := []string{
		"", " ", "  ", "\t", "\r", "what", "step", "step 1", "error 3", "ok", "Today", "TODAY", "to day", "todays", "-", "0", "\xff", "\x00",
		"make", "make ", "make x", "make 2024-1-31", "make 2024-02-30", "make 2023-02-29", "make 0000-01-01", "make 10000-01-01", "make 2024-01-31 ",
		"make  2024-01-31", "make 2024-01-31 1", "make +024-01-31", "make 738915", "make\t2024-01-31",
		"fall", "fall ", "fall --", "fall -1", "fall 1-", "fall 2", "fall 012", "fall a", "fall 0 1", "fall 1 1", "fall 01\x00", "fall \u0661",
		"tear", "tear ", "tear 1", "tear 1 ", "tear  1", "tear - -", "tear 2 1", "tear 1 a", "tear 1 1 1", "tear 1 01", "tear 1 -1", "tear 5", "tear  5", "tear 1  5",
		"balance", "balance ", "balance Cash", "balance cas", "balance cashx", "balance 1", "balance nothing", "balance board", "balance cash cash", "balance cash ", "balance  cash",
		"board", "board 1", "board 1 level", "board 1 level 1200.00 60000 actual 12 2024-01-31 15.00", "board 01 level 1200.00 60000 actual 12 2024-01-31 15.00 10",
		"board 1  level 1200.00 60000 actual 12 2024-01-31 15.00 10", "board 1 level 0.00 60000 actual 12 2024-01-31 15.00 10",
		"board 4294967296 level 1200.00 60000 actual 12 2024-01-31 15.00 10",
		"pay", "pay 1", "pay 1 1", "pay 1 1 2024-01-31", "pay 1 1 2024-01-31 5", "pay 1 1 2024-01-31 0.00", "pay 1 1 2024-01-31 -5.00", "pay 1 1 2024-01-31 5.00 ", " pay 1 1 2024-01-31 5.00",
		"pay 1 1 2024-01-31 10000000000.01", "pay 1 1 2024-01-31 99999999999999999999.00", "pay 1 1 2024-02-30 5.00", "pay -1 1 2024-01-31 5.00",
		"off 1 1 2024-01-31 5.00", "off 1 1", "reverse", "reverse 1", "reverse 1 1 1", "reverse 1 01", "late 1 1 2024-01-31 5.00", "accrue 1 1 2024-01-31 5.00",
	}
	for _, word := range []string{"commit", "snapshot", "open", "today", "left", "gen", "orders"} {
		l = append(l, word+" ", " "+word, word+" 1", word+"1", word+" -", word+"\r", word+"\t", strings.ToUpper(word), word[1:])
	}
	for _, word := range []string{"batch", "arm", "state", "entries", "tear -", "tear 01"} {
		l = append(l, word)
		for _, n := range []string{
			"", " 1", "1 ", "1 1", "-", "-1", "+1", "-0", "00", "01", "007", "1.0", "1e3", "0x1", "1_0", "a", "1a", "\u0661", "\uff11",
			"2147483648", "4294967295", "4294967296", "9223372036854775808", "18446744073709551616", "99999999999999999999999", "02147483647",
		} {
			l = append(l, word+" "+n)
		}
	}
	return l
}

func TestAnyOtherLine(t *testing.T) {
	want := last(t, append(session(), "state 1")...)
	for _, line := range others() {
		if got := last(t, line); got != "error 15" {
			t.Fatalf("without a server, %q: %s", line, got)
		}
		got := run(t, append(session(), line, "state 1")...)
		if got[len(session())] != "error 15" {
			t.Fatalf("%q: %s", line, got[len(session())])
		}
		if got[len(got)-1] != want {
			t.Fatalf("%q has changed something: %s", line, got[len(got)-1])
		}
	}
}

func TestWhatWasNotCommittedStaysSoBehindAnyOtherLine(t *testing.T) {
	for _, line := range others() {
		lines := append(session(), "pay 1 2 2024-01-31 1.00", line, "gen", "orders", "left", "fall -", "orders")
		got := run(t, lines...)[len(session())+2:]
		if want := []string{"1", "5", "1", "ok", "4"}; !slices.Equal(got, want) {
			t.Fatalf("behind %q: %q, want %q", line, got, want)
		}
	}
}

// A line whose words are in one blank too many or too few, or that has another byte, is another line.
func TestOneByteMore(t *testing.T) {
	for word, line := range forms() {
		for at := range len(line) + 1 {
			for _, c := range []string{" ", "\t", "\r", "x", "\x00", "\xff", "."} {
				more := line[:at] + c + line[at:]
				if got := last(t, append(session(), more)...); got != "error 15" {
					t.Fatalf("%q (of %s): %s", more, word, got)
				}
			}
		}
	}
}

// N.

func TestNumbers(t *testing.T) {
	for _, n := range []string{"0", "1", "9", "10", "2147483646", "2147483647"} {
		for _, c := range []struct{ line, want string }{
			{"arm ", "ok"}, {"tear - ", "ok"}, {"tear 01 ", "ok"}, {"state ", "error 3"}, {"entries ", "error 3"},
		} {
			if got := last(t, "make 2024-01-31", c.line+n); got != c.want {
				t.Fatalf("%s%s: %s, want %s", c.line, n, got, c.want)
			}
		}
		want := "1 closed"
		if n == "0" {
			want = "0 open"
		}
		if got := last(t, "make 2024-01-31", "batch "+n); got != want {
			t.Fatalf("batch %s: %s, want %s", n, got, want)
		}
	}
}

func TestLoansOfAnyNumber(t *testing.T) {
	wantScript(t, `
		make 2024-01-31 | ok
		board 0 only 12.00 0 thirty 1 2024-01-31 0.00 0 | ok
		board 2147483647 only 13.00 0 thirty 1 2024-01-31 0.00 0 | ok
		board 2147483648 only 14.00 0 thirty 1 2024-01-31 0.00 0 | ok
		board 4294967295 only 15.00 0 thirty 1 2024-01-31 0.00 0 | ok
		left | 4
		state 0 | active 0.00 0.00 12.00 0.00 0.00 current
		state 2147483647 | active 0.00 0.00 13.00 0.00 0.00 current
		state 2147483648 | error 15
		state 4294967295 | error 15
		entries 0 | 1 4
		entries 2147483647 | 1 4
		entries 2147483648 | error 15
		state 1 | error 3
		entries 1 | error 3
		balance principal | 54.00`)
}
