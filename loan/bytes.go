package loan

import (
	"math"

	"arrears/api"
	"arrears/coin"
	"arrears/date"
	"arrears/due"
	"arrears/quill"
	"arrears/story"
	"arrears/terms"
)

// Bytes are the loan's, as a Quill writes them.
func (l *Loan) Bytes() []byte {
	if l == nil {
		return nil
	}
	t := l.Terms()
	var q quill.Quill
	q.Uint(uint64(l.id)).Text(string(t.Bytes()))
	q.Uint(uint64(l.through - t.Start + 1))
	q.Uint(uint64(len(l.past)))
	for _, x := range l.past {
		e := x.Event
		q.Uint(uint64(e.Seq)).Uint(uint64(e.Day)).Uint(uint64(e.Kind)).Uint(uint64(e.Amount)).Flag(x.Gone)
	}
	return q.Done()
}

// Parse is the loan whose Bytes are p, with h the days on which nothing is done.
func Parse(p []byte, h due.Holy) (*Loan, error) {
	lens := quill.Look(p)
	id := uint32(lens.Uint(math.MaxUint32))
	t, err := terms.Parse([]byte(lens.Text(len(p))))
	days := date.Day(lens.Uint(furthest + 1))
	past := readPast(lens)
	through := t.Start - 1 + days
	// A Quill writes each value in one way only: what reads well and may be has just these Bytes.
	if err != nil || lens.End() != nil || through > furthest || !right(past) {
		return nil, api.ErrForm
	}
	l, err := New(id, t, h)
	if err != nil {
		return nil, err
	}
	l.past, l.through = past, through
	return l, nil
}

func readPast(lens *quill.Lens) []Past {
	past := make([]Past, lens.Uint(api.MaxEvents))
	for k := range past {
		e := &past[k].Event
		e.Seq = uint32(lens.Uint(math.MaxUint32))
		e.Day = date.Day(lens.Uint(api.MaxDay))
		e.Kind = byte(lens.Uint(math.MaxUint8))
		e.Amount = coin.Coin(lens.Uint(api.MaxMoney))
		past[k].Gone = lens.Flag()
	}
	return past
}

// right tells whether the events may be those of a loan.
func right(past []Past) bool {
	for k, x := range past {
		if !x.Event.Right() || place(past, x.Event.Seq) < k || x.Gone && x.Event.Kind != story.Pay {
			return false
		}
	}
	return true
}
