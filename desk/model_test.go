package desk_test

import (
	"fmt"
	"math/rand"
	"regexp"
	"strconv"
	"strings"
	"testing"

	"arrears/api"
	"arrears/chart"
	"arrears/date"
	"arrears/desk"
	"arrears/drum"
	"arrears/late"
	"arrears/order"
	"arrears/server"
	"arrears/story"
)

// model is a desk word by word.
type model struct {
	d *drum.Drum
	s *server.Server
}

const (
	aNumber = `(0|[1-9][0-9]*)`
	aWord   = `(-|[01]+)`
)

var (
	makes    = regexp.MustCompile(`\Amake (\d{4}-\d{2}-\d{2})\z`)
	batches  = regexp.MustCompile(`\Abatch ` + aNumber + `\z`)
	falls    = regexp.MustCompile(`\Afall ` + aWord + `\z`)
	tears    = regexp.MustCompile(`\Atear ` + aWord + ` ` + aNumber + `\z`)
	arms     = regexp.MustCompile(`\Aarm ` + aNumber + `\z`)
	states   = regexp.MustCompile(`\Astate ` + aNumber + `\z`)
	entries  = regexp.MustCompile(`\Aentries ` + aNumber + `\z`)
	balances = regexp.MustCompile(`\Abalance (cash|principal|interest|fees|suspense|income|charges|loss|recovered)\z`)
)

func told(err error) string {
	if err != nil {
		return fmt.Sprintf("error %d", api.Code(err))
	}
	return "ok"
}

// small is whether each of the texts is a number of at most 2^31 - 1.
func small(l ...string) bool {
	for _, s := range l {
		if n, err := strconv.ParseInt(s, 10, 64); err != nil || n >= 1<<31 {
			return false
		}
	}
	return true
}

func atoi(s string) int {
	n, _ := strconv.Atoi(s)
	return n
}

func (m *model) answer(line string) string {
	if x := makes.FindStringSubmatch(line); x != nil {
		today, err := date.Read(x[1])
		if err != nil {
			return "error 15"
		}
		m.s, err = server.Make(m.d, today, nil)
		return told(err)
	}
	if x := falls.FindStringSubmatch(line); x != nil {
		return m.fall(x[1], -1)
	}
	if x := tears.FindStringSubmatch(line); x != nil && small(x[2]) {
		return m.fall(x[1], atoi(x[2]))
	}
	if x := arms.FindStringSubmatch(line); x != nil && small(x[1]) {
		m.d.Arm(atoi(x[1]))
		return "ok"
	}
	if line == "open" {
		return m.open()
	}
	answer := m.served(line)
	if answer != "error 15" && m.s == nil {
		return "error 3"
	}
	return answer
}

func (m *model) open() string {
	var err error
	m.s, err = server.Open(m.d)
	return told(err)
}

func (m *model) fall(word string, torn int) string {
	var keep []bool
	for _, c := range strings.TrimPrefix(word, "-") {
		keep = append(keep, c == '1')
	}
	m.d = m.d.Fall(keep, torn)
	return m.open()
}

// served is the answer of a line that wants a server.
func (m *model) served(line string) string {
	b := m.s.Bank()
	switch line {
	case "commit":
		return told(m.s.Commit())
	case "snapshot":
		return told(m.s.Snapshot())
	case "today":
		return b.Today().Text()
	case "left":
		return fmt.Sprint(b.Left())
	case "gen":
		return fmt.Sprint(m.s.Gen())
	case "orders":
		return fmt.Sprint(m.s.Orders())
	}
	if x := batches.FindStringSubmatch(line); x != nil && small(x[1]) {
		n, closed, err := m.s.Batch(atoi(x[1]))
		if err != nil {
			return told(err)
		}
		return fmt.Sprint(n, map[bool]string{true: " closed", false: " open"}[closed])
	}
	if x := states.FindStringSubmatch(line); x != nil && small(x[1]) {
		return m.state(uint32(atoi(x[1])))
	}
	if x := entries.FindStringSubmatch(line); x != nil && small(x[1]) {
		if b.Loan(uint32(atoi(x[1]))) == nil {
			return "error 3"
		}
		return fmt.Sprint(len(b.Ledger().Loan(uint32(atoi(x[1])))), " ", b.Ledger().Len())
	}
	if x := balances.FindStringSubmatch(line); x != nil {
		return m.balance(x[1])
	}
	if o, err := order.Read(line); err == nil && line != "step" {
		_, _, err = m.s.Do(o)
		return told(err)
	}
	return "error 15"
}

func (m *model) state(id uint32) string {
	b := m.s.Bank()
	l := b.Loan(id)
	if l == nil {
		return "error 3"
	}
	s := l.State()
	name := []string{"none", "active", "closed", "lost"}[s.Status]
	bucket := "current"
	if s.Status == story.Active {
		dues, _ := l.Terms().Dues(nil)
		days := late.Since(dues, s.Paid, b.Today())
		for _, c := range []struct {
			from int
			name string
		}{{1, "grace"}, {30, "thirty"}, {60, "sixty"}, {90, "ninety"}} {
			if days >= c.from {
				bucket = c.name
			}
		}
	}
	return strings.Join([]string{name, s.Owed.Fees.Text(), s.Owed.Interest.Text(), s.Owed.Principal.Text(), s.Suspense.Text(), s.Cash.Text(), bucket}, " ")
}

// balance goes through the lines.
func (m *model) balance(name string) string {
	account := map[string]byte{
		"cash": chart.Cash, "principal": chart.Principal, "interest": chart.Interest, "fees": chart.Fees, "suspense": chart.Suspense,
		"income": chart.Income, "charges": chart.Charges, "loss": chart.Loss, "recovered": chart.Recovered,
	}[name]
	sum := 0
	l := m.s.Bank().Ledger()
	for k := range l.Len() {
		line, _ := l.Line(k)
		sum += int(line.Entry.Of(account))
	}
	sign := ""
	if sum < 0 {
		sum, sign = -sum, "-"
	}
	return fmt.Sprintf("%s%d.%02d", sign, sum/100, sum%100)
}

// random tells lines of which many, but not all, are of a bank that there is.
type random struct {
	*rand.Rand
	today date.Day
	seq   int
}

func pick[T any](r random, l ...T) T {
	return l[r.Intn(len(l))]
}

func (r random) day() string {
	return (r.today + date.Day(pick(r, 0, 0, 0, 0, -1, -2, -5, -28, -29, -30, 1))).Text()
}

func (r random) amount() string {
	return fmt.Sprintf("%d.%02d", r.Intn(pick(r, 2, 100, 1500)), r.Intn(100))
}

func (r random) id() int {
	return pick(r, 1, 1, 1, 2, 2, 3, 4)
}

func (r random) keep() string {
	word := ""
	for range r.Intn(6) {
		word += pick(r, "1", "1", "1", "0")
	}
	if word == "" {
		return "-"
	}
	return word
}

func (r *random) event() string {
	r.seq++
	seq := r.seq
	if r.Intn(9) == 0 {
		seq = r.Intn(r.seq)
	}
	switch r.Intn(12) {
	case 0:
		return fmt.Sprintf("fee %d %d %s %s", r.id(), seq, r.day(), r.amount())
	case 1:
		return fmt.Sprintf("waive %d %d %s %s", r.id(), seq, r.day(), r.amount())
	case 2:
		if r.Intn(3) == 0 {
			return fmt.Sprintf("off %d %d %s", r.id(), seq, r.day())
		}
	case 3, 4, 5:
		return fmt.Sprintf("reverse %d %d", r.id(), r.Intn(r.seq))
	}
	return fmt.Sprintf("pay %d %d %s %s", r.id(), seq, r.day(), r.amount())
}

func (r random) board() string {
	return fmt.Sprintf("board %d %s %s %d %s %d %s %s %d", r.id(), pick(r, "level", "only"), pick(r, "1200.00", "3.00", "0.01"),
		pick(r, 0, 60000, 1000000), pick(r, "actual", "thirty"), pick(r, 1, 3, 12), pick(r, r.today.Text(), r.today.Text(), r.day()), pick(r, "0.00", "15.00"), pick(r, 0, 3, 10))
}

func (r *random) line() string {
	switch n := r.Intn(100); {
	case n < 8:
		return r.board()
	case n < 34:
		return r.event()
	case n < 52:
		return fmt.Sprint("batch ", pick(*r, 0, 1, 2, 3, 9, 9, 2147483647))
	case n < 57:
		return pick(*r, "commit", "snapshot")
	case n < 62:
		return fmt.Sprint("fall ", r.keep())
	case n < 66:
		return fmt.Sprint("tear ", r.keep(), " ", pick(*r, 0, 1, 5, 100, 255, 256, 257, 2147483647))
	case n < 69:
		return fmt.Sprint("arm ", pick(*r, 0, 1, 2, 3, 4, 5, 7, 10, 99))
	case n < 71:
		return "open"
	case n < 72:
		return fmt.Sprint("make ", pick(*r, r.today.Text(), r.day(), "9999-12-31"))
	case n < 80:
		return pick(*r, "today", "left", "gen", "orders")
	case n < 88:
		return fmt.Sprint("state ", r.id())
	case n < 92:
		return fmt.Sprint("entries ", r.id())
	case n < 97:
		return fmt.Sprint("balance ", pick(*r, "cash", "principal", "interest", "fees", "suspense", "income", "charges", "loss", "recovered", "none"))
	}
	return pick(*r, "", "step", "what", "batch", "today 1", "fall 2", "tear 1", "state x", "make 2024-02-30")
}

// spoiled is the line with a byte more, less, or another one.
func (r random) spoiled(line string) string {
	at := r.Intn(len(line) + 1)
	c := string([]byte{"  01-9.\rax\xff"[r.Intn(11)]})
	switch {
	case at == len(line), r.Intn(3) == 0:
		return line[:at] + c + line[at:]
	case r.Intn(2) == 0:
		return line[:at] + line[at+1:]
	}
	return line[:at] + c + line[at+1:]
}

func TestScriptsAtRandom(t *testing.T) {
	answers := map[string]int{}
	for seed := range 400 {
		r := random{Rand: rand.New(rand.NewSource(int64(seed))), today: 738915}
		d, err := drum.New(600)
		if err != nil {
			t.Fatal(err)
		}
		m := model{d: d}
		var script, want strings.Builder
		for range 200 {
			line := r.line()
			if m.s == nil && r.Intn(4) == 0 {
				line = pick(r, "make 2024-01-31", "make 2024-01-31", "open", "fall -", "arm 99")
			}
			if r.Intn(20) == 0 {
				line = r.spoiled(line)
			}
			if script.Len()+len(line) >= api.MaxText {
				break
			}
			answer := m.answer(line)
			if m.s != nil {
				r.today = m.s.Bank().Today()
			}
			answers[answer]++
			fmt.Fprintln(&script, line)
			fmt.Fprintln(&want, answer)
		}
		got, err := desk.Run(script.String())
		if err != nil {
			t.Fatal(err)
		}
		wantLines(t, script.String(), got, want.String())
	}
	for _, n := range []string{"ok", "0 open", "1 closed", "error 1", "error 3", "error 8", "error 9", "error 10", "error 11", "error 14", "error 15"} {
		if answers[n] < 10 {
			t.Errorf("%s was answered %d times alone", n, answers[n])
		}
	}
}

func wantLines(t *testing.T, script, got, want string) {
	t.Helper()
	if got == want {
		return
	}
	lines, g, w := strings.Split(script, "\n"), strings.Split(got, "\n"), strings.Split(want, "\n")
	for k := range min(len(g), len(w)) {
		if g[k] != w[k] {
			t.Fatalf("%s\n%q, want %q", strings.Join(lines[:k+1], "\n"), g[k], w[k])
		}
	}
	t.Fatalf("%d answers, want %d", len(g), len(w))
}
