package bank

import (
	"bytes"

	"arrears/api"
	"arrears/chart"
	"arrears/date"
	"arrears/due"
	"arrears/ledger"
	"arrears/loan"
	"arrears/quill"
	"arrears/terms"
)

// Bytes are the bank's, as a Quill writes them.
func (b *Bank) Bytes() []byte {
	if b == nil {
		return nil
	}
	var q quill.Quill
	q.Uint(uint64(b.today))
	q.Uint(uint64(len(b.holy)))
	for _, d := range b.holy {
		q.Uint(uint64(d))
	}
	q.Uint(uint64(len(b.loans)))
	for _, id := range b.IDs() {
		q.Text(string(b.loans[id].Bytes()))
	}
	q.Text(string(b.ledger.Bytes()))
	return q.Done()
}

// Parse is the bank whose Bytes are p.
func Parse(p []byte) (*Bank, error) {
	lens := quill.Look(p)
	today := date.Day(lens.Uint(terms.MaxStart))
	b, err := New(today, readHoly(lens))
	if err != nil || !b.readLoans(lens, len(p)) {
		return nil, api.ErrForm
	}
	b.ledger, err = ledger.Parse([]byte(lens.Text(len(p))))
	// A Quill writes each value in one way only: what reads well and agrees has just these Bytes.
	if err != nil || lens.End() != nil || !b.agrees() {
		return nil, api.ErrForm
	}
	return b, nil
}

func readHoly(lens *quill.Lens) due.Holy {
	h := make(due.Holy, lens.Uint(api.MaxHoly))
	for k := range h {
		h[k] = date.Day(lens.Uint(api.MaxDay))
	}
	return h
}

// readLoans reads the loans into a bank that has none; false: they aren't those of a bank on its day.
func (b *Bank) readLoans(lens *quill.Lens, most int) bool {
	last := uint32(0)
	for range lens.Uint(api.MaxLoans) {
		l, err := loan.Parse([]byte(lens.Text(most)), b.holy)
		if err != nil || !b.inTime(l) || len(b.loans) > 0 && l.ID() <= last {
			return false
		}
		last = l.ID()
		b.loans[last] = l
		if l.Through() < b.today {
			b.left = append(b.left, last)
		}
	}
	return true
}

// inTime tells whether the loan was run through today, or through the day ahead of it.
func (b *Bank) inTime(l *loan.Loan) bool {
	return l.Through() == b.today || l.Through() == b.today-1
}

// agrees tells whether the ledger's live entries are those of the loans' stories.
func (b *Bank) agrees() bool {
	for _, id := range b.ledger.Loans() {
		if b.loans[id] == nil && len(b.ledger.Loan(id)) > 0 {
			return false
		}
	}
	for _, id := range b.IDs() {
		if !b.live(b.loans[id].Entries(), len(b.ledger.Loan(id))) {
			return false
		}
	}
	return true
}

// live tells whether a loan's entries, of which no two have one key, are just its n that are live.
func (b *Bank) live(entries []chart.Entry, n int) bool {
	if len(entries) != n {
		return false
	}
	for _, e := range entries {
		if live, ok := b.ledger.Live(e.Key); !ok || !chart.Same(live, e) {
			return false
		}
	}
	return true
}

// Same tells whether a and c have the same Bytes.
func Same(a, c *Bank) bool {
	if a == nil || c == nil {
		return a == c
	}
	return bytes.Equal(a.Bytes(), c.Bytes())
}
