package server_test

import (
	"bytes"
	"math"
	"slices"
	"testing"

	"arrears/api"
	"arrears/bank"
	"arrears/date"
	"arrears/drum"
	"arrears/due"
	"arrears/order"
	"arrears/reel"
	"arrears/seam"
	"arrears/server"
	"arrears/story"
	"arrears/terms"
)

// P21.1: Make.

func TestMake(t *testing.T) {
	for _, n := range []int{6, 7, 8, 80, 600, 8191, 8192} {
		for _, today := range []date.Day{0, start, terms.MaxStart} {
			for _, h := range []due.Holy{nil, {0}, {5, start + 29, api.MaxDay}} {
				d := drumOf(t, n)
				s, err := server.Make(d, today, h)
				wantCode(t, "Make", err, api.OK)
				wantLike(t, "Make", s, newModel(t, n, today, h...))
				if s.Drum() != d || d.Dirty() != 0 {
					t.Fatal(d.Dirty())
				}
				wantLike(t, "made", opened(t, d.Fall(nil, -1)), newModel(t, n, today, h...))
			}
		}
	}
}

func TestMakeOnADrumThatHadAnother(t *testing.T) {
	s := made(t, 40, start)
	does(t, s, board(3, start), step(), step())
	wantCode(t, "Snapshot", s.Snapshot(), api.OK)
	does(t, s, pay(3, 1, start, 500))
	wantCode(t, "Commit", s.Commit(), api.OK)
	x, err := server.Make(s.Drum(), start+5, nil)
	wantCode(t, "Make", err, api.OK)
	wantLike(t, "made anew", x, newModel(t, 40, start+5))
	wantLike(t, "opened", opened(t, s.Drum().Fall(nil, -1)), newModel(t, 40, start+5))
}

// holidays is so many of them.
func holidays(n int) due.Holy {
	h := due.Holy{}
	for k := range n {
		h = append(h, date.Day(1<<20+k))
	}
	return h
}

func TestMakeTellsTheFirstErrorThatHolds(t *testing.T) {
	for _, c := range []struct {
		sectors int // 0: no drum
		today   date.Day
		h       due.Holy
		want    api.Errno
	}{
		{40, -1, nil, api.ErrArg},
		{40, terms.MaxStart + 1, nil, api.ErrArg},
		{40, math.MinInt32, nil, api.ErrArg},
		{40, math.MaxInt32, nil, api.ErrArg},
		{40, start, due.Holy{9, 9}, api.ErrArg},
		{40, start, due.Holy{-1}, api.ErrArg},
		{40, start, holidays(api.MaxHoly + 1), api.ErrArg},
		{0, start, nil, api.ErrNone},
		{0, -1, nil, api.ErrArg}, // the bank's errors are told first
		{0, start, due.Holy{9, 8}, api.ErrArg},
		{1, start, nil, api.ErrArg},
		{5, start, nil, api.ErrArg},
		{5, start, holidays(api.MaxHoly), api.ErrArg},
		{9, start, holidays(api.MaxHoly), api.ErrFull}, // four bytes each, and three sectors a half
		{10, start, holidays(api.MaxHoly), api.OK},
	} {
		var d *drum.Drum
		was := ""
		if c.sectors > 0 {
			d = drumOf(t, c.sectors)
			wantCode(t, "Write", d.Write(0, []byte("was")), api.OK)
			was = image(t, d)
		}
		s, err := server.Make(d, c.today, c.h)
		wantCode(t, "Make", err, c.want)
		if c.want == api.OK {
			continue
		}
		if s != nil {
			t.Fatalf("%v: a server beside an error", c)
		}
		if d != nil && (image(t, d) != was || d.Dirty() != 1) {
			t.Fatalf("%v: was refused, and changed something", c)
		}
	}
}

func TestMakeOnADrumThatStops(t *testing.T) {
	for steps := 0; ; steps++ {
		d := drumOf(t, 40)
		d.Arm(steps)
		s, err := server.Make(d, start, nil)
		if err == nil {
			if steps < 4 {
				t.Fatalf("a Make of %d steps", steps)
			}
			return
		}
		wantCode(t, "Make", err, api.ErrOff)
		if s != nil {
			t.Fatal("a server beside an error")
		}
	}
}

func TestMakeKeepsNothingOfTheHolidays(t *testing.T) {
	h := due.Holy{5, start + 29, start + 30}
	was := slices.Clone(h)
	s := made(t, 80, start, h...)
	x, err := server.Make(drumOf(t, 80), start, h)
	wantCode(t, "Make", err, api.OK)
	if !slices.Equal(h, was) {
		t.Fatal("Make changed what it was handed")
	}
	h[1] = 7
	does(t, x, board(3, start))
	does(t, s, board(3, start))
	if !bank.Same(x.Bank(), s.Bank()) {
		t.Fatal("Make keeps what it was handed")
	}
}

// P21.1: the records, and Open.

// laid is a drum with those records.
func laid(t *testing.T, sectors int, records ...[]byte) *drum.Drum {
	t.Helper()
	d := drumOf(t, sectors)
	r, err := reel.Make(d, records[0])
	wantCode(t, "reel.Make", err, api.OK)
	for _, p := range records[1:] {
		wantCode(t, "Append", r.Append(p), api.OK)
	}
	wantCode(t, "Flush", r.Flush(), api.OK)
	return d
}

// Byte by byte: a bank's day, its number of holidays, of loans, and the length of its ledger, which has no lines; a Step.
func TestTheRecordsByBytes(t *testing.T) {
	s := made(t, 40, 300, 5)
	does(t, s, step(), step())
	wantRefused(t, s, reverse(3, 1), api.ErrNone)
	r, err := reel.Open(s.Drum())
	wantCode(t, "reel.Open", err, api.OK)
	want := [][]byte{{2, 1, 44, 1, 1, 1, 5, 0, 1, 1, 0}, {1, 4, 0}, {1, 4, 0}}
	if !slices.EqualFunc(r.Records(), want, bytes.Equal) {
		t.Fatalf("% x, want % x", r.Records(), want)
	}
}

func TestOpen(t *testing.T) {
	s, m := made(t, 80, start, start+29), newModel(t, 80, start, start+29)
	l := []order.Order{
		board(3, start), board(0, start), step(), step(), step(), pay(3, 1, start, 500), event(0, 1, start+1, story.Fee, 70),
		event(0, 2, start+1, story.Waive, 30), step(), reverse(3, 1), board(math.MaxUint32, start+1), event(3, 9, start, story.Off, 0),
	}
	for k, o := range l {
		does(t, s, o)
		if _, _, code := m.do(o); code != api.OK {
			t.Fatal(k, code)
		}
		wantLike(t, o.Text(), s, m)
		// As it is read, committed or not.
		x := opened(t, s.Drum().Copy())
		wantLike(t, o.Text(), x, m)
		if x.Bank().Left() != m.b.Left() {
			t.Fatal(x.Bank().Left())
		}
	}
	d := s.Drum()
	x := opened(t, d)
	wantLike(t, "opened", x, m)
	if x.Drum() != d {
		t.Fatal("another drum")
	}
	does(t, x, step())
	m.do(step())
	wantLike(t, "and on", x, m)
}

func TestOpenOfWhatTheServerDidNotWrite(t *testing.T) {
	b := bankOf(t, start)
	wantCode(t, "Board", b.Board(3, from(start)), api.OK)
	// The order in which the bank itself takes them is all that is asked.
	l := []order.Order{pay(3, 5, start, 7), step(), step(), reverse(3, 5)}
	m := &model{gen: 1, half: 19, first: b.Bytes(), b: b}
	for _, o := range l {
		if _, _, code := m.do(o); code != api.OK {
			t.Fatal(code)
		}
	}
	wantLike(t, "laid", opened(t, laid(t, 40, m.records()...)), m)
}

func TestOpenOfWhatIsNoServer(t *testing.T) {
	b := bankOf(t, start)
	wantCode(t, "Board", b.Board(3, from(start)), api.OK)
	wantCode(t, "Take", b.Take(3, pay(3, 1, start, 5).Event), api.OK)
	first, last := b.Bytes(), bankOf(t, terms.MaxStart).Bytes()
	fine := step().Bytes()
	wrong := func(o order.Order) [][]byte { return [][]byte{first, fine, o.Bytes(), fine} }
	for what, l := range map[string][][]byte{
		"nothing":               {nil},
		"noughts":               {{0, 0}},
		"no bank":               {[]byte("first")},
		"less than a bank":      {first[:len(first)-1]},
		"more than a bank":      {append(slices.Clone(first), 0)},
		"no bank, and orders":   {nil, fine},
		"an order ahead":        {fine, first},
		"a bank again":          {first, first},
		"an order of nothing":   {first, nil},
		"no order":              {first, fine, {1, 5, 0}},
		"less than an order":    {first, fine[:2]},
		"more than an order":    {first, append(slices.Clone(fine), 0)},
		"no order, behind":      {first, fine, fine, []byte("order")},
		"boarded twice":         wrong(board(3, start)),
		"boarded on another":    wrong(board(4, start+1)),
		"paid of none":          wrong(pay(4, 1, start, 5)),
		"paid twice":            wrong(pay(3, 1, start, 5)),
		"paid too early":        wrong(pay(3, 2, start+1, 5)),
		"reversed of none":      wrong(reverse(3, 2)),
		"reversed twice":        {first, reverse(3, 1).Bytes(), reverse(3, 1).Bytes()},
		"behind the end of all": {last, fine},
	} {
		d := laid(t, 40, l...)
		was := image(t, d)
		s, err := server.Open(d)
		if s != nil || api.Code(err) != api.ErrForm {
			t.Fatalf("%s: error %d", what, api.Code(err))
		}
		if image(t, d) != was || d.Dirty() != 0 {
			t.Fatalf("%s: was refused, and changed something", what)
		}
	}
	opened(t, laid(t, 40, first, fine, fine))
	opened(t, laid(t, 40, last))
}

func TestOpensErrorsAreTheReels(t *testing.T) {
	full := made(t, 40, start).Drum()
	for what, c := range map[string]struct {
		d    func() *drum.Drum
		want api.Errno
	}{
		"no drum":     {func() *drum.Drum { return nil }, api.ErrNone},
		"5 sectors":   {func() *drum.Drum { return drumOf(t, 5) }, api.ErrArg},
		"a new drum":  {func() *drum.Drum { return drumOf(t, 40) }, api.ErrNone},
		"turned head": {func() *drum.Drum { d := full.Copy(); d.Turn(1, 80, 1); return d }, api.ErrSum},
		"no record":   {func() *drum.Drum { d := full.Copy(); d.Turn(21, 80, 1); return d }, api.ErrForm},
	} {
		s, err := server.Open(c.d())
		if s != nil || api.Code(err) != c.want {
			t.Fatalf("%s: error %d, want %d", what, api.Code(err), c.want)
		}
	}
}

func TestOpenOnADrumThatStops(t *testing.T) {
	s := made(t, 40, start)
	does(t, s, step(), step(), step())
	// The second order is lost, so that there is something to be made noughts.
	f := s.Drum().Fall([]bool{true, false, true}, -1)
	steps := 0
	for ; ; steps++ {
		d := f.Copy()
		d.Arm(steps)
		x, err := server.Open(d)
		if err == nil {
			break
		}
		wantCode(t, "Open", err, api.ErrOff)
		if x != nil {
			t.Fatal("a server beside an error")
		}
		d.Arm(-1)
		if x := opened(t, d); x.Orders() != 1 || x.Off() || x.Bank().Today() != start+1 {
			t.Fatal(x.Orders(), x.Off(), x.Bank().Today())
		}
	}
	if steps != 2 {
		t.Fatal(steps)
	}
}

// P21.2: Do.

func TestExampleOfTheChapter(t *testing.T) {
	s := made(t, 40, start)
	was := s.Bank()
	does(t, s, board(3, start))
	if x := opened(t, s.Drum().Fall(nil, -1)); !bank.Same(x.Bank(), was) || bank.Same(x.Bank(), s.Bank()) || x.Orders() != 0 {
		t.Fatal(x.Orders())
	}
}

func TestDo(t *testing.T) {
	s, b := made(t, 80, start), bankOf(t, start)
	dirty := s.Drum().Dirty()
	for k, o := range []order.Order{
		board(7, start), board(3, start), step(), pay(7, 4, start, 500), step(), step(),
		reverse(7, 4), event(3, 1, start+1, story.Fee, 70), event(3, 2, start, story.Waive, 70), event(3, 3, start+1, story.Off, 0), step(), step(), step(),
	} {
		wantID, wantClosed, err := o.Do(b)
		wantCode(t, "the bank's Do", err, api.OK)
		id, closed, err := s.Do(o)
		if id != wantID || closed != wantClosed || err != nil {
			t.Fatalf("%s: %d, %v, error %d, want %d, %v", o.Text(), id, closed, api.Code(err), wantID, wantClosed)
		}
		if !bank.Same(s.Bank(), b) || s.Orders() != k+1 || s.Room() != 38-k-1 || s.Gen() != 1 {
			t.Fatalf("%s: %d orders, room %d", o.Text(), s.Orders(), s.Room())
		}
		// It is written, but not committed.
		dirty++
		if s.Drum().Dirty() != dirty || opened(t, s.Drum().Fall(nil, -1)).Orders() != 0 {
			t.Fatalf("%s: %d writes", o.Text(), s.Drum().Dirty())
		}
	}
}

// wantRefused holds that the order has that error, and that nothing has changed.
func wantRefused(t *testing.T, s *server.Server, o order.Order, want api.Errno) error {
	t.Helper()
	was := tell(t, s)
	id, closed, err := s.Do(o)
	if id != 0 || closed || api.Code(err) != want {
		t.Fatalf("%v: %d, %v, error %d, want %d", o, id, closed, api.Code(err), want)
	}
	if tell(t, s) != was {
		t.Fatalf("%v was refused, and changed something", o)
	}
	return err
}

// refused is orders that a bank refuses which stands as afterwards tells, and why.
func refused() []struct {
	o    order.Order
	want api.Errno
} {
	return []struct {
		o    order.Order
		want api.Errno
	}{
		{board(3, start), api.ErrTwice},
		{board(math.MaxUint32, start), api.ErrTwice},
		{board(4, start+1), api.ErrWindow},
		{pay(4, 1, start, 5), api.ErrNone},
		{pay(3, 1, start, 5), api.ErrTwice},
		{pay(3, 2, start, 5), api.ErrTwice},
		{pay(3, 3, start+1, 5), api.ErrWindow},
		{pay(0, 3, start, 5), api.ErrClosed},
		{event(5, 3, start, story.Waive, 5), api.ErrState},
		{reverse(4, 1), api.ErrNone},
		{reverse(3, 3), api.ErrNone},
		{reverse(3, 2), api.ErrState},
		{reverse(3, 8), api.ErrArg},
	}
}

// afterwards is the orders behind which these are refused.
func afterwards() []order.Order {
	return []order.Order{
		board(0, start), board(3, start), board(5, start), board(math.MaxUint32, start), pay(3, 1, start, 5), pay(3, 2, start, 5),
		reverse(3, 2), event(3, 8, start, story.Fee, 5), pay(0, 1, start, 200000), event(5, 1, start, story.Off, 0),
	}
}

func TestDosErrorsAreTheOrders(t *testing.T) {
	s := made(t, 80, start)
	does(t, s, afterwards()...)
	for _, c := range refused() {
		if err := wantRefused(t, s, c.o, c.want); api.At(err) != uint64(c.o.Loan) {
			t.Fatalf("%s: an error of %d", c.o.Text(), api.At(err))
		}
	}
	for _, o := range []order.Order{
		{}, {Kind: 5}, {Kind: order.Step, Loan: 1}, {Kind: order.Board, Loan: 4}, {Kind: order.Take, Loan: 3},
		{Kind: order.Reverse, Loan: 3, Event: pay(3, 1, start, 5).Event}, board(3, -1), pay(3, 9, start, 0),
	} {
		wantRefused(t, s, o, api.ErrForm)
	}
	end := made(t, 80, terms.MaxStart)
	wantRefused(t, end, step(), api.ErrWindow)
}

func TestDoWithoutRoom(t *testing.T) {
	s := made(t, 2+2*13, start)
	does(t, s, afterwards()...)
	does(t, s, step(), step())
	if s.Room() != 0 || s.Orders() != 12 {
		t.Fatal(s.Room(), s.Orders())
	}
	for _, o := range []order.Order{step(), board(4, start), pay(3, 3, start, 5), reverse(3, 1), event(3, 4, start, story.Waive, 5)} {
		wantRefused(t, s, o, api.ErrFull)
	}
	// The bank's errors are told first.
	for _, c := range refused() {
		wantRefused(t, s, c.o, c.want)
	}
	wantRefused(t, s, order.Order{}, api.ErrForm)
	wantCode(t, "Snapshot", s.Snapshot(), api.OK)
	does(t, s, step())
	if s.Off() {
		t.Fatal("off")
	}
}

// P21.2: Batch.

func wantBatch(t *testing.T, s *server.Server, n, want int, closed bool, code api.Errno) {
	t.Helper()
	done, c, err := s.Batch(n)
	if done != want || c != closed || api.Code(err) != code {
		t.Fatalf("Batch(%d): %d, %v, error %d, want %d, %v, %d", n, done, c, api.Code(err), want, closed, code)
	}
	if code != api.ErrOff && s.Drum().Dirty() != 0 {
		t.Fatalf("Batch(%d): not committed", n)
	}
}

func TestBatch(t *testing.T) {
	s := made(t, 80, start)
	does(t, s, board(7, start), board(3, start), board(9, start))
	for _, n := range []int{0, -1, math.MinInt} { // a Commit alone
		does(t, s, pay(7, uint32(s.Orders()), start, 5))
		wantBatch(t, s, n, 0, false, api.OK)
		if s.Bank().Left() != 3 {
			t.Fatal(s.Bank().Left())
		}
	}
	wantBatch(t, s, 1, 1, false, api.OK)
	wantBatch(t, s, 2, 2, false, api.OK) // just all that are left: today is open still
	if b := s.Bank(); b.Left() != 0 || b.Today() != start {
		t.Fatal(b.Left(), b.Today())
	}
	wantBatch(t, s, 1, 1, true, api.OK)
	wantBatch(t, s, 4, 4, true, api.OK)
	wantBatch(t, s, math.MaxInt, 4, true, api.OK) // not beyond the one that closes today
	if b := s.Bank(); b.Left() != 3 || b.Today() != start+3 || s.Orders() != 18 || s.Room() != 38-18 {
		t.Fatal(b.Left(), b.Today(), s.Orders(), s.Room())
	}
	x := opened(t, s.Drum().Fall(nil, -1))
	if !bank.Same(x.Bank(), s.Bank()) {
		t.Fatal("not committed")
	}
	wantKept(t, x.Bank())
}

func TestBatchOnTheLastDay(t *testing.T) {
	s := made(t, 80, terms.MaxStart)
	does(t, s, board(3, terms.MaxStart), board(7, terms.MaxStart))
	wantBatch(t, s, 2, 2, false, api.OK)
	does(t, s, pay(3, 1, terms.MaxStart, 5))
	wantBatch(t, s, 1, 0, false, api.ErrWindow)
	wantBatch(t, s, 9, 0, false, api.ErrWindow)
	wantBatch(t, s, 0, 0, false, api.OK)
	other := made(t, 80, terms.MaxStart)
	does(t, other, board(3, terms.MaxStart), board(7, terms.MaxStart))
	wantBatch(t, other, 9, 2, false, api.ErrWindow)
	if x := opened(t, other.Drum().Fall(nil, -1)); x.Bank().Left() != 0 {
		t.Fatal(x.Bank().Left())
	}
}

func TestBatchWithoutRoom(t *testing.T) {
	s := made(t, 2+2*8, start) // room for seven orders
	does(t, s, board(7, start), board(3, start), board(9, start))
	wantBatch(t, s, 2, 2, false, api.OK)
	does(t, s, pay(3, 1, start, 5))
	wantBatch(t, s, 9, 1, false, api.ErrFull)
	wantBatch(t, s, 9, 0, false, api.ErrFull)
	wantBatch(t, s, 0, 0, false, api.OK)
	if b := s.Bank(); b.Left() != 0 || s.Room() != 0 || s.Off() {
		t.Fatal(b.Left(), s.Room(), s.Off())
	}
	if x := opened(t, s.Drum().Fall(nil, -1)); !bank.Same(x.Bank(), s.Bank()) {
		t.Fatal("not committed")
	}
	wantCode(t, "Snapshot", s.Snapshot(), api.OK)
	wantBatch(t, s, 9, 1, true, api.OK)
}

// What was done, and whether today was closed, is told beside the drum's error, too.
func TestBatchOnADrumThatStops(t *testing.T) {
	for _, c := range []struct {
		arm, n, want int
		closed       bool
		code         api.Errno
	}{
		{0, 0, 0, false, api.ErrOff},
		{0, 9, 0, false, api.ErrOff},
		{1, 9, 1, false, api.ErrOff},
		{1, 1, 1, false, api.ErrOff}, // the Commit
		{2, 9, 2, false, api.ErrOff},
		{3, 9, 3, true, api.ErrOff}, // the Commit
		{3, 2, 2, false, api.OK},
		{4, 9, 3, true, api.OK},
	} {
		s := made(t, 80, start)
		does(t, s, board(3, start), board(7, start))
		wantCode(t, "Commit", s.Commit(), api.OK)
		s.Drum().Arm(c.arm)
		wantBatch(t, s, c.n, c.want, c.closed, c.code)
		if s.Off() != (c.code == api.ErrOff) || s.Orders() != 2+c.want || s.Bank().Today() != start+date.Day(c.want/3) {
			t.Fatalf("%v: off %v, %d orders, on %d", c, s.Off(), s.Orders(), s.Bank().Today())
		}
		if c.code == api.ErrOff {
			wantBatch(t, s, 9, 0, false, api.ErrOff)
		}
	}
	// The Commit's error is told, whatever the Step's was.
	for _, s := range []*server.Server{made(t, 80, terms.MaxStart), made(t, 6, start)} {
		for s.Room() > 0 && s.Bank().Today() < terms.MaxStart {
			does(t, s, step())
		}
		s.Drum().Arm(0)
		wantBatch(t, s, 1, 0, false, api.ErrOff)
	}
}

// P21.2: Commit and Snapshot.

func TestCommit(t *testing.T) {
	s := made(t, 40, start)
	for range 3 {
		does(t, s, step(), step())
		was := tell(t, s)
		wantCode(t, "Commit", s.Commit(), api.OK)
		is := tell(t, s)
		if is.dirty != 0 || is.lasting != is.seen || was.dirty != 2 {
			t.Fatal(was.dirty, is.dirty)
		}
		// Nothing else has changed.
		is.dirty, is.lasting = was.dirty, was.lasting
		if is != was {
			t.Fatal("a Commit changed something")
		}
		if x := opened(t, s.Drum().Fall(nil, -1)); !bank.Same(x.Bank(), s.Bank()) {
			t.Fatal("not committed")
		}
	}
	wantCode(t, "Commit of nothing", s.Commit(), api.OK)
}

func TestSnapshot(t *testing.T) {
	s, m := made(t, 80, start, 5), newModel(t, 80, start, 5)
	for k, o := range []order.Order{board(3, start), step(), step(), pay(3, 1, start, 500), reverse(3, 1), step(), step()} {
		was := s.Bank()
		does(t, s, o)
		m.do(o)
		if k == 3 {
			continue // the next one is of two orders
		}
		wantCode(t, "Snapshot", s.Snapshot(), m.snapshot())
		wantLike(t, o.Text(), s, m)
		if s.Drum().Dirty() != 0 || bank.Same(s.Bank(), was) {
			t.Fatal(s.Drum().Dirty())
		}
		wantLike(t, o.Text(), opened(t, s.Drum().Fall(nil, -1)), m)
	}
	for range 600 {
		wantCode(t, "Snapshot", s.Snapshot(), m.snapshot())
	}
	wantLike(t, "at last", s, m)
	if s.Gen() != 607 {
		t.Fatal(s.Gen())
	}
}

// wantNoSnapshot holds that a Snapshot has that error, and that nothing has changed; but what was done goes on.
func wantNoSnapshot(t *testing.T, s *server.Server, want api.Errno) {
	t.Helper()
	was := tell(t, s)
	for range 2 {
		wantCode(t, "Snapshot", s.Snapshot(), want)
		if tell(t, s) != was {
			t.Fatalf("a snapshot had the error %d, and changed something", want)
		}
	}
	does(t, s, step())
	wantCode(t, "Commit", s.Commit(), api.OK)
	if x := opened(t, s.Drum().Fall(nil, -1)); !bank.Same(x.Bank(), s.Bank()) {
		t.Fatal("another bank")
	}
}

func TestSnapshotOfABankThatDoesNotGoIntoAHalf(t *testing.T) {
	// An order takes one sector, what comes of a late payment many more.
	s := made(t, 2+2*80, start)
	does(t, s, board(3, start))
	for range 29 {
		wantBatch(t, s, 9, 2, true, api.OK)
	}
	for k := range uint32(19) {
		does(t, s, pay(3, k, start, 6000))
	}
	if n := pages(len(s.Bank().Bytes())); n <= 80 {
		t.Fatal(n)
	}
	wantNoSnapshot(t, s, api.ErrFull)
}

func TestSnapshotOfABankThatIsTooLong(t *testing.T) {
	b := bankOf(t, start)
	for k := uint32(0); len(b.Bytes()) < 99900; k += 10 {
		for id := k; id < k+10; id++ {
			if len(b.Bytes()) < 99900 {
				wantCode(t, "Board", b.Board(id, from(start)), api.OK)
			}
		}
	}
	for _, sectors := range []int{8192, 2 + 2*402} { // also where it is too long for a half
		s := opened(t, laid(t, sectors, b.Bytes()))
		for id := uint32(1 << 20); len(s.Bank().Bytes()) <= 100000; id++ {
			wantCode(t, "Snapshot", s.Snapshot(), api.OK)
			does(t, s, board(id, start))
		}
		wantNoSnapshot(t, s, api.ErrLong)
	}
}

// fourBytes is n, the lowest byte first.
func fourBytes(n uint32) []byte {
	return []byte{byte(n), byte(n >> 8), byte(n >> 16), byte(n >> 24)}
}

// wantWritten writes a sector that is marked.
func wantWritten(t *testing.T, d *drum.Drum, at int, mark byte, body []byte) {
	t.Helper()
	p := append([]byte{mark}, body...)
	p = append(p, make([]byte, 255-len(p))...)
	wantCode(t, "Write", d.Write(at, append(p, mark)), api.OK)
}

func TestSnapshotOfTheLastGeneration(t *testing.T) {
	for gen, want := range map[uint32]api.Errno{1<<31 - 2: api.OK, 1 << 31: api.ErrOver} {
		d := drumOf(t, 40)
		wantWritten(t, d, 0, byte(gen%251+1), seam.Frame(0, fourBytes(gen)))
		wantWritten(t, d, 2, 0xa5, seam.Frame(seam.Check(gen, fourBytes(0)), bankOf(t, start).Bytes()))
		s := opened(t, d)
		if s.Gen() != gen {
			t.Fatal(s.Gen())
		}
		if want != api.OK {
			wantNoSnapshot(t, s, want)
			continue
		}
		wantCode(t, "Snapshot", s.Snapshot(), want)
		if s.Gen() != gen+1 {
			t.Fatal(s.Gen())
		}
	}
}

// P21.2: Off.

// stopped is a server with an order that isn't committed, whose drum has told ErrOff at what was asked of it.
func stopped(t *testing.T, ask func(s *server.Server) error) *server.Server {
	t.Helper()
	s := made(t, 80, start)
	does(t, s, afterwards()...)
	wantCode(t, "Commit", s.Commit(), api.OK)
	does(t, s, pay(3, 100, start, 5))
	s.Drum().Arm(0)
	if s.Off() {
		t.Fatal("off, though nothing was asked")
	}
	was := tell(t, s)
	wantCode(t, "on a drum that stopped", ask(s), api.ErrOff)
	is := tell(t, s)
	if !is.off {
		t.Fatal("not off")
	}
	is.off = was.off
	if is != was {
		t.Fatal("what the drum refused changed something")
	}
	return s
}

// asks is all that writes.
func asks() map[string]func(s *server.Server) error {
	return map[string]func(s *server.Server) error{
		"Do":       func(s *server.Server) error { _, _, err := s.Do(step()); return err },
		"Batch":    func(s *server.Server) error { _, _, err := s.Batch(2); return err },
		"no Batch": func(s *server.Server) error { _, _, err := s.Batch(0); return err },
		"Commit":   func(s *server.Server) error { return s.Commit() },
		"Snapshot": func(s *server.Server) error { return s.Snapshot() },
	}
}

func TestOff(t *testing.T) {
	for first, ask := range asks() {
		for _, arm := range []int{0, 1, -1} { // it stays so, whatever the drum would do
			s := stopped(t, ask)
			s.Drum().Arm(arm)
			was := tell(t, s)
			for then, ask := range asks() {
				wantCode(t, first+", then "+then, ask(s), api.ErrOff)
			}
			// The bank's own errors are told first.
			for _, c := range refused() {
				if err := wantRefused(t, s, c.o, c.want); api.At(err) != uint64(c.o.Loan) {
					t.Fatalf("%s: an error of %d", c.o.Text(), api.At(err))
				}
			}
			wantRefused(t, s, order.Order{}, api.ErrForm)
			wantRefused(t, s, pay(3, 101, start, 5), api.ErrOff)
			if tell(t, s) != was || !s.Off() {
				t.Fatalf("%s: something has changed", first)
			}
			// What is there is told by Open, of the same drum, too.
			s.Drum().Arm(-1)
			x := opened(t, s.Drum())
			if x.Off() || !bank.Same(x.Bank(), s.Bank()) || x.Commit() != nil {
				t.Fatalf("%s: opened, off %v", first, x.Off())
			}
		}
	}
}

// ErrOff is told ahead of ErrFull and ErrLong, once the drum has told it.
func TestOffIsToldAheadOfErrFull(t *testing.T) {
	s := made(t, 6, start) // room for one order
	does(t, s, step())
	wantRefused(t, s, step(), api.ErrFull)
	s.Drum().Arm(0)
	// An order for which there is no room isn't written: the drum isn't asked.
	wantRefused(t, s, step(), api.ErrFull)
	if s.Off() {
		t.Fatal("off")
	}
	wantCode(t, "Commit", s.Commit(), api.ErrOff)
	wantRefused(t, s, step(), api.ErrOff)

	s = made(t, 2+2*32, start)
	does(t, s, board(3, start))
	for range 15 {
		does(t, s, step(), step())
	}
	wantCode(t, "Snapshot", s.Snapshot(), api.OK)
	for k := uint32(0); pages(len(s.Bank().Bytes())) <= 32; k++ {
		does(t, s, pay(3, k, start, 6000))
	}
	s.Drum().Arm(0)
	wantCode(t, "Snapshot", s.Snapshot(), api.ErrFull)
	wantCode(t, "Commit", s.Commit(), api.ErrOff)
	wantCode(t, "Snapshot", s.Snapshot(), api.ErrOff)
}

func TestSnapshotOnADrumThatStops(t *testing.T) {
	for steps := 0; ; steps++ {
		s := made(t, 80, start)
		does(t, s, board(3, start), step())
		bank0 := s.Bank()
		s.Drum().Arm(steps)
		err := s.Snapshot()
		if err == nil {
			if steps != 4 || s.Off() {
				t.Fatal(steps, s.Off())
			}
			return
		}
		wantCode(t, "Snapshot", err, api.ErrOff)
		if !s.Off() || s.Gen() != 1 || s.Orders() != 2 || s.Room() != 36 || !bank.Same(s.Bank(), bank0) {
			t.Fatal(s.Off(), s.Gen(), s.Orders(), s.Room())
		}
	}
}

// P21.2: what is told is the teller's own.

func TestBankIsACopy(t *testing.T) {
	s := made(t, 80, start)
	does(t, s, board(3, start))
	b := s.Bank()
	was := b.Bytes()
	wantCode(t, "Take", b.Take(3, pay(3, 1, start, 5).Event), api.OK)
	if _, _, err := b.Step(); err != nil {
		t.Fatal(err)
	}
	if !bytes.Equal(s.Bank().Bytes(), was) || s.Bank().Left() != 1 {
		t.Fatal("what is done to a copy is done to the server's")
	}
	does(t, s, pay(3, 1, start, 7), step(), step())
	if b.Loan(3).State().Cash != 5 || b.Today() != start || s.Bank().Loan(3).State().Cash != 7 {
		t.Fatal("what is done to the server's is done to a copy")
	}
	x := opened(t, s.Drum())
	if !bank.Same(x.Bank(), s.Bank()) {
		t.Fatal("another bank")
	}
}

func TestNoServer(t *testing.T) {
	var s *server.Server
	for _, o := range []order.Order{step(), {}, board(3, start)} {
		if id, closed, err := s.Do(o); id != 0 || closed || api.Code(err) != api.ErrNone {
			t.Fatal(id, closed, api.Code(err))
		}
	}
	for _, n := range []int{-1, 0, 9} {
		if done, closed, err := s.Batch(n); done != 0 || closed || api.Code(err) != api.ErrNone {
			t.Fatal(done, closed, api.Code(err))
		}
	}
	wantCode(t, "Commit", s.Commit(), api.ErrNone)
	wantCode(t, "Snapshot", s.Snapshot(), api.ErrNone)
	if s.Bank() != nil || s.Drum() != nil || s.Gen() != 0 || s.Orders() != 0 || s.Room() != 0 || s.Off() {
		t.Fatal("a server that isn't there tells something")
	}
}
