package story

import (
	"arrears/chart"
	"arrears/coin"
	"arrears/date"
	"arrears/split"
)

// teller tells a story. The events are few enough, and each is Right: no sum of it has more than 64 bits, so that no call below it has an error.
type teller struct {
	*Story
	State
	day     date.Day
	events  []Event // those that are still to come
	months  int     // of how many months the grace is over
	entries []chart.Entry
}

// post adds an entry of the day.
func (t *teller) post(kind byte, seq uint32, legs ...chart.Leg) {
	k := chart.Key{Loan: t.loan, Day: t.day, Kind: kind, Seq: seq}
	t.entries = append(t.entries, chart.Make(k, legs...))
}

func debit(account byte, amount coin.Coin) chart.Leg {
	return chart.Leg{Account: account, Amount: amount}
}

func credit(account byte, amount coin.Coin) chart.Leg {
	return chart.Leg{Account: account, Amount: -amount}
}

// board begins the loan.
func (t *teller) board() {
	principal := t.terms.Principal
	t.Owed.Principal = principal
	t.Status = Active
	t.post(chart.Board, 0, debit(chart.Principal, principal), credit(chart.Cash, principal))
}

// happen tells the events of the day.
func (t *teller) happen() {
	for len(t.events) > 0 && t.events[0].Day == t.day {
		t.tell(t.events[0])
		t.events = t.events[1:]
		if t.Status == Active && t.Owed == (split.Owed{}) {
			t.Status = Closed
		}
	}
}

// tell tells an event.
func (t *teller) tell(e Event) {
	switch {
	case e.Kind == Pay && t.Status == Lost:
		t.regain(e)
	case e.Kind == Pay:
		t.pay(e)
	case t.Status != Active:
		// To one that has ended nothing else happens.
	case e.Kind == Fee:
		t.charge(chart.Fee, e.Seq, e.Amount)
	case e.Kind == Waive:
		t.waive(e)
	case e.Kind == Off:
		t.writeOff(e)
	}
}

// regain takes a payment of what was lost.
func (t *teller) regain(e Event) {
	t.Cash += e.Amount
	t.Recovered += e.Amount
	t.post(chart.Pay, e.Seq, debit(chart.Cash, e.Amount), credit(chart.Recovered, e.Amount))
}

// pay takes a payment of what is owed.
func (t *teller) pay(e Event) {
	parts, left, _ := t.Owed.Pay(e.Amount)
	t.Owed, _ = t.Owed.Less(parts)
	t.Paid += parts.Interest + parts.Principal
	t.Suspense += left
	t.Cash += e.Amount
	t.post(chart.Pay, e.Seq,
		debit(chart.Cash, e.Amount),
		credit(chart.Fees, parts.Fees),
		credit(chart.Interest, parts.Interest),
		credit(chart.Principal, parts.Principal),
		credit(chart.Suspense, left),
	)
}

// charge adds a fee to what is owed.
func (t *teller) charge(kind byte, seq uint32, fee coin.Coin) {
	t.Owed.Fees += fee
	t.post(kind, seq, debit(chart.Fees, fee), credit(chart.Charges, fee))
}

// waive takes fees off what is owed.
func (t *teller) waive(e Event) {
	fees := t.Owed.Fees.Least(e.Amount)
	t.Owed.Fees -= fees
	t.post(chart.Waive, e.Seq, debit(chart.Charges, fees), credit(chart.Fees, fees))
}

// writeOff gives all up that is owed.
func (t *teller) writeOff(e Event) {
	t.post(chart.Off, e.Seq,
		debit(chart.Loss, t.Quote()),
		credit(chart.Principal, t.Owed.Principal),
		credit(chart.Interest, t.Owed.Interest),
		credit(chart.Fees, t.Owed.Fees),
	)
	t.Owed = split.Owed{}
	t.Status = Lost
}

// end tells what the day's end brings.
func (t *teller) end() {
	if t.Status != Active {
		return
	}
	t.late()
	t.accrue()
}

// late charges the fee of each month whose grace is over on this day, and that isn't paid.
func (t *teller) late() {
	// Due days never fall, and an Active loan has told each day: the months are come to in their order. On one day there may be some.
	for t.months < len(t.dues) {
		m := t.dues[t.months]
		if m.Day+date.Day(t.terms.Grace) != t.day {
			return
		}
		t.months++
		if t.Paid < m.Sum && t.terms.Fee != 0 {
			t.charge(chart.Late, uint32(t.months), t.terms.Fee)
		}
	}
}

// accrue adds the day's interest to what is owed.
func (t *teller) accrue() {
	interest, carry, _ := t.terms.Rate.Day(t.Owed.Principal, t.day, t.Carry)
	t.Owed.Interest += interest
	t.Carry = carry
	t.post(chart.Accrue, 0, debit(chart.Interest, interest), credit(chart.Income, interest))
}
