package ledger_test

import (
	"encoding/binary"
	"math/big"
	"slices"
	"testing"

	"arrears/api"
	"arrears/chart"
	"arrears/coin"
	"arrears/ledger"
)

// model is a ledger word by word: its lines, and nothing beside them.
type model struct {
	lines []ledger.Line
}

// live is the place of the live line of k; -1: there is none.
func (m *model) live(k chart.Key) int {
	for at, x := range m.lines {
		undone := slices.ContainsFunc(m.lines, func(y ledger.Line) bool { return y.Of == at+1 })
		if x.Of == 0 && !undone && x.Entry.Key == k {
			return at
		}
	}
	return -1
}

// sum is that of all lines, or of those of one loan.
func (m *model) sum(account byte, of func(loan uint32) bool) *big.Int {
	sum := new(big.Int)
	for _, x := range m.lines {
		for _, g := range x.Entry.Legs {
			if g.Account == account && of(x.Entry.Key.Loan) {
				sum.Add(sum, big.NewInt(int64(g.Amount)))
			}
		}
	}
	return sum
}

func (m *model) balance(loan uint32, account byte) *big.Int {
	return m.sum(account, func(n uint32) bool { return n == loan })
}

func (m *model) control(account byte) *big.Int {
	return m.sum(account, func(uint32) bool { return true })
}

// add adds a line, if all sums are within 64 bits then.
func (m *model) add(x ledger.Line) api.Errno {
	more := &model{lines: append(slices.Clone(m.lines), x)}
	for account := range 256 {
		if !more.balance(x.Entry.Key.Loan, byte(account)).IsInt64() || !more.control(byte(account)).IsInt64() {
			return api.ErrOver
		}
	}
	m.lines = more.lines
	return api.OK
}

func (m *model) post(e chart.Entry) api.Errno {
	switch {
	case !e.Right():
		return api.ErrArg
	case m.live(e.Key) >= 0:
		return api.ErrTwice
	}
	return m.add(ledger.Line{Entry: chart.Entry{Key: e.Key, Legs: slices.Clone(e.Legs)}})
}

func (m *model) reverse(k chart.Key) api.Errno {
	at := m.live(k)
	if at < 0 {
		return api.ErrNone
	}
	x := ledger.Line{Entry: chart.Entry{Key: k}, Of: at + 1}
	for _, g := range m.lines[at].Entry.Legs {
		if g.Amount == fewest {
			return api.ErrOver
		}
		x.Entry.Legs = append(x.Entry.Legs, leg(g.Account, -g.Amount))
	}
	return m.add(x)
}

// loan is the live entries of a loan, by their keys.
func (m *model) loan(loan uint32) []chart.Entry {
	l := []chart.Entry{}
	for at, x := range m.lines {
		if x.Entry.Key.Loan == loan && m.live(x.Entry.Key) == at {
			l = append(l, x.Entry)
		}
	}
	for k := range l {
		for n := k; n > 0 && l[n].Key.Less(l[n-1].Key); n-- {
			l[n], l[n-1] = l[n-1], l[n]
		}
	}
	return l
}

func (m *model) loans() []uint32 {
	l := []uint32{}
	for _, x := range m.lines {
		if !slices.Contains(l, x.Entry.Key.Loan) {
			l = append(l, x.Entry.Key.Loan)
		}
	}
	slices.Sort(l)
	return l
}

func (m *model) bytes() []byte {
	p := number(nil, uint64(len(m.lines)))
	for _, x := range m.lines {
		text := x.Entry.Bytes()
		p = append(number(p, uint64(len(text))), text...)
		p = number(p, uint64(x.Of))
	}
	return p
}

// number is p, and a number as a Quill writes it.
func number(p []byte, n uint64) []byte {
	b := binary.BigEndian.AppendUint64(nil, n)
	for len(b) > 0 && b[0] == 0 {
		b = b[1:]
	}
	return append(append(p, byte(len(b))), b...)
}

func sameLine(a, b ledger.Line) bool {
	return a.Of == b.Of && sameEntry(a.Entry, b.Entry)
}

func sameEntry(a, b chart.Entry) bool {
	return a.Key == b.Key && slices.Equal(a.Legs, b.Legs)
}

// wantLike holds all that l tells against the model, with these keys and the loans of which they are.
func wantLike(t *testing.T, l *ledger.Ledger, m *model, keys []chart.Key) {
	t.Helper()
	wantLines(t, l, m)
	for _, k := range keys {
		at := m.live(k)
		want := chart.Entry{}
		if at >= 0 {
			want = m.lines[at].Entry
		}
		if e, ok := l.Live(k); ok != (at >= 0) || !sameEntry(e, want) {
			t.Fatalf("Live(%v) = %v, %v, want %v", k, e, ok, want)
		}
		if got, want := l.Loan(k.Loan), m.loan(k.Loan); !slices.EqualFunc(got, want, sameEntry) {
			t.Fatalf("Loan(%d) = %v, want %v", k.Loan, got, want)
		}
	}
	if got, want := l.Loans(), m.loans(); !slices.Equal(got, want) {
		t.Fatalf("Loans() = %v, want %v", got, want)
	}
	wantSums(t, l, m)
}

func wantLines(t *testing.T, l *ledger.Ledger, m *model) {
	t.Helper()
	if l.Len() != len(m.lines) {
		t.Fatalf("Len() = %d, want %d", l.Len(), len(m.lines))
	}
	for i, want := range m.lines {
		if x, ok := l.Line(i); !ok || !sameLine(x, want) {
			t.Fatalf("Line(%d) = %v, %v, want %v", i, x, ok, want)
		}
	}
	for _, i := range []int{-1, -2, -1 << 31, len(m.lines), len(m.lines) + 1, 1<<31 - 1} {
		if x, ok := l.Line(i); ok || !sameLine(x, ledger.Line{}) {
			t.Fatalf("Line(%d) = %v, %v", i, x, ok)
		}
	}
}

// wantSums holds the sums against the model's, and against each other (P14.3).
func wantSums(t *testing.T, l *ledger.Ledger, m *model) {
	t.Helper()
	loans := append(m.loans(), 4711)
	for _, account := range []byte{0, 1, 2, 3, 4, 5, 6, 7, 8, 9, 10, 11, 128, 255} {
		sum := new(big.Int)
		for _, loan := range loans {
			got, want := l.Balance(loan, account), m.balance(loan, account)
			if int64(got) != want.Int64() || !want.IsInt64() {
				t.Fatalf("Balance(%d, %d) = %d, want %v", loan, account, got, want)
			}
			sum.Add(sum, want)
		}
		got, want := l.Control(account), m.control(account)
		if int64(got) != want.Int64() || !want.IsInt64() || sum.Cmp(want) != 0 {
			t.Fatalf("Control(%d) = %d, want %v, and the balances' sum is %v", account, got, want, sum)
		}
	}
	for _, x := range m.lines {
		sum := new(big.Int)
		for _, g := range x.Entry.Legs {
			sum.Add(sum, big.NewInt(int64(g.Amount)))
		}
		if sum.Sign() != 0 {
			t.Fatalf("%v doesn't balance", x)
		}
	}
}

// wantBack holds Bytes against the model's, and Parse against the ledger.
func wantBack(t *testing.T, l *ledger.Ledger, m *model, keys []chart.Key) {
	t.Helper()
	p := l.Bytes()
	if string(p) != string(m.bytes()) {
		t.Fatalf("Bytes() = %x, want %x", p, m.bytes())
	}
	back, err := ledger.Parse(p)
	if err != nil || !ledger.Same(back, l) || !ledger.Same(l, back) {
		t.Fatalf("Parse(%x) = %v, %v", p, back, err)
	}
	wantLike(t, back, m, keys)
}

// wantErr holds an error against its number, and against the loan of which it is.
func wantErr(t *testing.T, err error, want api.Errno, loan uint32) {
	t.Helper()
	if api.Code(err) != want {
		t.Fatalf("error %d, want %d", api.Code(err), want)
	}
	told := want == api.ErrTwice || want == api.ErrNone || want == api.ErrOver
	if told && api.At(err) != uint64(loan) {
		t.Fatalf("error %d of %d, want of loan %d", api.Code(err), api.At(err), loan)
	}
}

func leg(account byte, amount coin.Coin) chart.Leg {
	return chart.Leg{Account: account, Amount: amount}
}
