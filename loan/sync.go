package loan

import (
	"maps"
	"slices"

	"arrears/api"
	"arrears/chart"
	"arrears/coin"
	"arrears/ledger"
)

// Sync makes the ledger's live entries of the loan those of its story.
func (l *Loan) Sync(b *ledger.Ledger) error {
	switch {
	case l == nil:
		return api.ErrNone
	case b == nil:
		return l.fault(api.ErrArg)
	}
	wrong, missing := l.changes(b)
	// No line can be taken back: what the ledger won't have is to be known ahead of the first one.
	if err := l.fit(b, wrong, missing); err != nil {
		return l.fault(err)
	}
	for _, e := range wrong {
		if err := b.Reverse(e.Key); err != nil {
			return l.fault(err)
		}
	}
	for _, e := range missing {
		if err := b.Post(e); err != nil {
			return l.fault(err)
		}
	}
	return nil
}

// changes is which live entries aren't the story's, and which of the story's aren't live; both by their keys.
func (l *Loan) changes(b *ledger.Ledger) (wrong, missing []chart.Entry) {
	left := map[chart.Key]chart.Entry{}
	for _, e := range l.Entries() {
		left[e.Key] = e
	}
	for _, e := range b.Loan(l.id) {
		told, ok := left[e.Key]
		if ok && chart.Same(told, e) {
			delete(left, e.Key)
		} else {
			wrong = append(wrong, e)
		}
	}
	return wrong, slices.SortedFunc(maps.Values(left), byKey)
}

func byKey(a, b chart.Entry) int {
	switch {
	case a.Key.Less(b.Key):
		return -1
	case b.Key.Less(a.Key):
		return 1
	}
	return 0
}

// fit is the error that the ledger would tell, were what is wrong reversed, and then what is missing posted.
func (l *Loan) fit(b *ledger.Ledger, wrong, missing []chart.Entry) error {
	var balances, controls sums
	for account := range balances {
		balances[account] = b.Balance(l.id, byte(account))
		controls[account] = b.Control(byte(account))
	}
	for _, e := range wrong {
		turned, err := e.Turned()
		if err != nil {
			return err
		}
		if err := add(turned, &balances, &controls); err != nil {
			return err
		}
	}
	for _, e := range missing {
		if err := add(e, &balances, &controls); err != nil {
			return err
		}
	}
	return nil
}

// sums is how much each account has.
type sums [chart.Recovered + 1]coin.Coin

// add adds the entry, of accounts that there are, to each of the sums.
func add(e chart.Entry, each ...*sums) error {
	for _, s := range each {
		for _, g := range e.Legs {
			sum, err := s[g.Account].Add(g.Amount)
			if err != nil {
				return err
			}
			s[g.Account] = sum
		}
	}
	return nil
}
