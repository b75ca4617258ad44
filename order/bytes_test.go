package order_test

import (
	"bytes"
	"encoding/binary"
	"math"
	"math/rand"
	"slices"
	"testing"

	"arrears/api"
	"arrears/order"
	"arrears/story"
	"arrears/terms"
)

// number is p, and a number as a Quill writes it.
func number(p []byte, n uint64) []byte {
	b := binary.BigEndian.AppendUint64(nil, n)
	for len(b) > 0 && b[0] == 0 {
		b = b[1:]
	}
	return append(append(p, byte(len(b))), b...)
}

// form is the numbers, one behind the other.
func form(numbers ...uint64) []byte {
	p := []byte{}
	for _, n := range numbers {
		p = number(p, n)
	}
	return p
}

// termsForm is what the terms' Bytes would be, were they right.
func termsForm(x terms.Terms) []byte {
	return form(uint64(x.Kind), uint64(x.Principal), uint64(x.Rate.Parts), uint64(x.Rate.Basis), uint64(x.Months), uint64(x.Start), uint64(x.Fee), uint64(x.Grace))
}

// modelBytes is what Bytes would be, were the order right.
func modelBytes(o order.Order) []byte {
	p, e := form(uint64(o.Kind), uint64(o.Loan)), o.Event
	switch o.Kind {
	case 1:
		text := termsForm(o.Terms)
		p = append(number(p, uint64(len(text))), text...)
	case 2:
		p = append(p, form(uint64(e.Seq), uint64(e.Day), uint64(e.Kind), uint64(e.Amount))...)
	case 3:
		p = number(p, uint64(e.Seq))
	}
	return p
}

func wantNoOrder(t *testing.T, p []byte) {
	t.Helper()
	if o, err := order.Parse(p); o != (order.Order{}) || api.Code(err) != api.ErrForm {
		t.Fatalf("Parse(% x) = %v, error %d", p, o, api.Code(err))
	}
}

// wantBytesOrNone holds that p is the bytes of what is parsed of it, or that nothing is; true: it is.
func wantBytesOrNone(t *testing.T, p []byte) bool {
	t.Helper()
	o, err := order.Parse(p)
	if err != nil {
		wantNoOrder(t, p)
	} else if !o.Right() || !bytes.Equal(modelBytes(o), p) || !bytes.Equal(o.Bytes(), p) {
		t.Fatalf("Parse(% x) = %v, whose bytes are % x", p, o, o.Bytes())
	}
	return err == nil
}

// some is a few right orders of each kind.
func some() []order.Order {
	l := []order.Order{step(), reverse(3, 300), reverse(0, 0), reverse(math.MaxUint32, 256)}
	for _, x := range rightTerms() {
		l = append(l, board(300, x))
	}
	for _, e := range []story.Event{{Seq: 1, Day: 738000, Kind: 4, Amount: 500}, {Kind: 5, Amount: api.MaxMoney}, {Seq: math.MaxUint32, Day: api.MaxDay, Kind: 6, Amount: 1}, {Seq: 256, Day: 255, Kind: 7}, {Kind: 7}} {
		l = append(l, take(7, e))
	}
	return l
}

// P20.2: Bytes and Parse.

func TestBytesAndParse(t *testing.T) {
	for _, o := range rightOrders() {
		p := o.Bytes()
		if want := modelBytes(o); !bytes.Equal(p, want) {
			t.Fatalf("%v.Bytes() = % x, want % x", o, p, want)
		}
		if back, err := order.Parse(p); err != nil || back != o {
			t.Fatalf("Parse(% x) = %v, error %d, want %v", p, back, api.Code(err), o)
		}
	}
}

func TestKnownBytes(t *testing.T) {
	for _, c := range []struct {
		o    order.Order
		want string
	}{
		{step(), "\x01\x04\x00"},
		{reverse(3, 300), "\x01\x03\x01\x03\x02\x01\x2c"},
		{reverse(0, 0), "\x01\x03\x00\x00"},
		{take(3, story.Event{Seq: 1, Day: 738000, Kind: story.Pay, Amount: 500}), "\x01\x02\x01\x03\x01\x01\x03\x0b\x42\xd0\x01\x04\x02\x01\xf4"},
		{take(math.MaxUint32, story.Event{Kind: story.Off}), "\x01\x02\x04\xff\xff\xff\xff\x00\x00\x01\x07\x00"},
		{board(300, usual()), "\x01\x01\x02\x01\x2c\x01\x16" + "\x01\x01\x03\x01\xd4\xc0\x02\xea\x60\x01\x01\x01\x0c\x03\x0b\x46\x63\x02\x05\xdc\x01\x0a"},
	} {
		if p := c.o.Bytes(); string(p) != c.want {
			t.Fatalf("%v: % x, want % x", c.o, p, c.want)
		}
		if back, err := order.Parse([]byte(c.want)); err != nil || back != c.o {
			t.Fatalf("%v: %v, error %d", c.o, back, api.Code(err))
		}
	}
}

func TestBytesOfWhatMayNotBe(t *testing.T) {
	for _, o := range slices.Concat(wrongOrders(), strangeOrders()) {
		if p := o.Bytes(); len(p) != 0 {
			t.Fatalf("%v.Bytes() = % x", o, p)
		}
		wantBytesOrNone(t, modelBytes(o))
	}
	for _, o := range wrongOrders() {
		wantNoOrder(t, modelBytes(o))
	}
}

func TestParseOfPartsAndMore(t *testing.T) {
	wantNoOrder(t, nil)
	wantNoOrder(t, []byte{})
	for _, o := range rightOrders() {
		p := o.Bytes()
		for n := range p {
			wantNoOrder(t, p[:n])
			wantBytesOrNone(t, p[n+1:])
		}
		for _, more := range []string{"\x00", "\x01\x00", "\x01\x01", "\xff", string(p)} {
			wantNoOrder(t, append(bytes.Clone(p), more...))
		}
	}
}

// Of each kind, what is behind Kind and Loan of the others.
func TestParseOfOtherKinds(t *testing.T) {
	for _, o := range some() {
		p := o.Bytes()
		for n := range uint64(300) {
			if q := append(number(nil, n), p[2:]...); n != uint64(o.Kind) {
				wantNoOrder(t, q)
			} else if !wantBytesOrNone(t, q) {
				t.Fatalf("Parse(% x) is an error", q)
			}
		}
	}
}

func TestParseTakesWhatBytesMakesAlone(t *testing.T) {
	read := 0
	for _, o := range some() {
		p := o.Bytes()
		for k := range p {
			for b := range 256 {
				q := bytes.Clone(p)
				q[k] = byte(b)
				if wantBytesOrNone(t, q) {
					read++
				}
			}
		}
	}
	if read < 1000 {
		t.Fatal(read)
	}
}

// Numbers that would be right, were they cut to their kind of whole numbers.
func TestParseOfNumbersAboveTheirLimits(t *testing.T) {
	const most = math.MaxUint32
	for _, c := range []struct{ right, limits []uint64 }{
		{[]uint64{2, 3, 1, 738000, 4, 500}, []uint64{2, most, most, api.MaxDay, 6, api.MaxMoney}},
		{[]uint64{2, 3, 1, 738000, 7, 0}, []uint64{2, most, most, api.MaxDay, 7, 0}},
		{[]uint64{3, 3, 1}, []uint64{3, most, most}},
		{[]uint64{4, 0}, []uint64{4, 0}},
	} {
		for k, limit := range c.limits {
			for _, n := range []uint64{limit, limit + 1, limit + 2, c.right[k] + 1<<8, c.right[k] + 1<<16, c.right[k] + 1<<31, c.right[k] + 1<<32, c.right[k] + 1<<40, c.right[k] + 1<<63, math.MaxUint64} {
				l := slices.Clone(c.right)
				l[k] = n
				if p := form(l...); n > limit {
					wantNoOrder(t, p)
				} else if !wantBytesOrNone(t, p) {
					t.Fatalf("Parse(% x) is an error", p)
				}
			}
		}
	}
}

func TestParseOfOtherForms(t *testing.T) {
	right := []string{"\x01\x02", "\x01\x03", "\x01\x01", "\x01\x05", "\x01\x04", "\x01\x07"}
	if o, err := order.Parse([]byte("\x01\x02\x01\x03\x01\x01\x01\x05\x01\x04\x01\x07")); err != nil || o != take(3, story.Event{Seq: 1, Day: 5, Kind: 4, Amount: 7}) {
		t.Fatal(o, api.Code(err))
	}
	for k, s := range right {
		for _, other := range []string{"\x02\x00" + s[1:], "\x08\x00\x00\x00\x00\x00\x00\x00" + s[1:], "\x81" + s[1:], "\x80", "\x09" + s[1:], "\xff", "", s + s} {
			p := []byte{}
			for at, usual := range right {
				if at == k {
					usual = other
				}
				p = append(p, usual...)
			}
			wantNoOrder(t, p)
		}
	}
}

// The terms are a Text: as long as it tells, and with nothing behind them.
func TestParseOfTheTermsText(t *testing.T) {
	head, text := form(1, 3), usual().Bytes()
	with := func(length int, text []byte) []byte {
		return append(number(bytes.Clone(head), uint64(length)), text...)
	}
	if o, err := order.Parse(with(len(text), text)); err != nil || o != board(3, usual()) {
		t.Fatal(o, api.Code(err))
	}
	wantNoOrder(t, head)
	wantNoOrder(t, append(bytes.Clone(head), text...))
	for n := range 40 {
		if n != len(text) {
			wantNoOrder(t, with(n, text))
		}
		if n < len(text) {
			wantNoOrder(t, with(n, text[:n]))
		}
	}
	wantNoOrder(t, with(len(text)+1, append(bytes.Clone(text), 0)))
	wantNoOrder(t, append(with(len(text), text), 0))
	for _, x := range wrongTerms() {
		p := termsForm(x)
		wantNoOrder(t, with(len(p), p))
	}
	for _, n := range []uint64{1 << 31, 1 << 32, 1<<32 + uint64(len(text)), 1 << 63, math.MaxUint64} {
		wantNoOrder(t, append(number(bytes.Clone(head), n), text...))
	}
}

func TestParseOfAnyBytes(t *testing.T) {
	g := rand.New(rand.NewSource(202))
	l := some()
	for range 20000 {
		p := l[g.Intn(len(l))].Bytes()
		p = p[:g.Intn(len(p)+1)]
		for range g.Intn(4) {
			p = slices.Insert(p, g.Intn(len(p)+1), byte(g.Intn(256)>>g.Intn(8)))
		}
		wantBytesOrNone(t, p)
	}
}

func TestBytesAndParseAreNewMemory(t *testing.T) {
	for _, o := range some() {
		was := o
		p, q := o.Bytes(), o.Bytes()
		clear(p[:cap(p)])
		if !bytes.Equal(q, modelBytes(o)) || o != was {
			t.Fatalf("% x", q)
		}
		room := append(bytes.Clone(q), 7, 7)
		kept := bytes.Clone(room)
		back, err := order.Parse(room[:len(q)])
		if err != nil || !bytes.Equal(room, kept) {
			t.Fatalf("% x", room)
		}
		clear(room)
		if back != was {
			t.Fatal(back)
		}
	}
}
