package quill_test

import (
	"bytes"
	"math"
	"math/rand"
	"strings"
	"testing"

	"arrears/api"
	"arrears/quill"
)

// numbers are the edges of each count of bytes, and some between.
func numbers() []uint64 {
	l := []uint64{0, 1, 2, 9, 127, 128, 300, math.MaxInt64, math.MaxInt64 + 1, math.MaxUint64 - 1}
	for k := range 8 {
		n := uint64(1) << (8 * k)
		l = append(l, n-1, n, n+1, n<<7-1, n<<7, n<<7+1, n<<8-1)
	}
	r := rand.New(rand.NewSource(8))
	for k := range 200 {
		l = append(l, r.Uint64()>>(k%64))
	}
	return l
}

// model is n's bytes, word by word.
func model(mark byte, n uint64) []byte {
	var p []byte
	for ; n > 0; n /= 256 {
		p = append([]byte{byte(n % 256)}, p...)
	}
	return append([]byte{mark + byte(len(p))}, p...)
}

func modelInt(n int64) []byte {
	if n < 0 {
		return model(128, uint64(-1-n))
	}
	return model(0, uint64(n))
}

func wantBytes(t *testing.T, q *quill.Quill, want []byte) {
	t.Helper()
	if got := q.Done(); !bytes.Equal(got, want) {
		t.Fatalf("% x, want % x", got, want)
	}
}

// read is one thing that a Lens tells.
type read struct {
	name string
	// zero asks for it, with the most there may be, and tells whether the answer is its zero value.
	zero func(l *quill.Lens) bool
}

func reads() []read {
	return []read{
		{"Uint", func(l *quill.Lens) bool { return l.Uint(math.MaxUint64) == 0 }},
		{"Int", func(l *quill.Lens) bool { return l.Int() == 0 }},
		{"Flag", func(l *quill.Lens) bool { return !l.Flag() }},
		{"Text", func(l *quill.Lens) bool { return l.Text(math.MaxInt) == "" }},
	}
}

// wantWrong holds that l isn't right, and stays so.
func wantWrong(t *testing.T, what string, l *quill.Lens) {
	t.Helper()
	for range 3 {
		for _, r := range reads() {
			if l.Rest() != 0 || api.Code(l.End()) != api.ErrForm || !r.zero(l) || l.Rest() != 0 || api.Code(l.End()) != api.ErrForm {
				t.Fatalf("%s: it is right, or tells something by %s", what, r.name)
			}
		}
	}
}

// wantLeft holds that l is right, and that so much is left.
func wantLeft(t *testing.T, what string, l *quill.Lens, rest int) {
	t.Helper()
	if l.Rest() != rest || rest == 0 && l.End() != nil || rest > 0 && api.Code(l.End()) != api.ErrForm {
		t.Fatalf("%s: %d are left, the end: %v, want %d", what, l.Rest(), l.End(), rest)
	}
}

// P8.1: what a Quill writes.

func TestUint(t *testing.T) {
	for _, n := range numbers() {
		wantBytes(t, new(quill.Quill).Uint(n), model(0, n))
	}
}

func TestInt(t *testing.T) {
	for _, n := range numbers() {
		wantBytes(t, new(quill.Quill).Int(int64(n)), modelInt(int64(n)))
		wantBytes(t, new(quill.Quill).Int(-int64(n)), modelInt(-int64(n)))
	}
}

func TestKnownBytes(t *testing.T) {
	for _, x := range []struct {
		q    *quill.Quill
		want string
	}{
		{new(quill.Quill), ""}, {new(quill.Quill).Uint(0), "\x00"}, {new(quill.Quill).Uint(1), "\x01\x01"}, {new(quill.Quill).Uint(255), "\x01\xff"}, {new(quill.Quill).Uint(256), "\x02\x01\x00"}, {new(quill.Quill).Uint(300), "\x02\x01\x2c"}, {new(quill.Quill).Uint(65536), "\x03\x01\x00\x00"}, {new(quill.Quill).Uint(math.MaxUint64), "\x08\xff\xff\xff\xff\xff\xff\xff\xff"},
		{new(quill.Quill).Int(0), "\x00"}, {new(quill.Quill).Int(300), "\x02\x01\x2c"}, {new(quill.Quill).Int(-1), "\x80"}, {new(quill.Quill).Int(-2), "\x81\x01"}, {new(quill.Quill).Int(-256), "\x81\xff"}, {new(quill.Quill).Int(-257), "\x82\x01\x00"}, {new(quill.Quill).Int(-300), "\x82\x01\x2b"},
		{new(quill.Quill).Int(math.MaxInt64), "\x08\x7f\xff\xff\xff\xff\xff\xff\xff"}, {new(quill.Quill).Int(math.MinInt64), "\x88\x7f\xff\xff\xff\xff\xff\xff\xff"}, {new(quill.Quill).Int(math.MinInt64 + 1), "\x88\x7f\xff\xff\xff\xff\xff\xff\xfe"},
		{new(quill.Quill).Flag(true), "\x01\x01"}, {new(quill.Quill).Flag(false), "\x00"}, {new(quill.Quill).Text(""), "\x00"}, {new(quill.Quill).Text("hi"), "\x01\x02hi"}, {new(quill.Quill).Text("\x00\xff\xc3"), "\x01\x03\x00\xff\xc3"}, {new(quill.Quill).Text("ä"), "\x01\x02\xc3\xa4"}, {new(quill.Quill).Text(strings.Repeat("a", 256)), "\x02\x01\x00" + strings.Repeat("a", 256)},
		{new(quill.Quill).Uint(300).Int(-300).Flag(true).Text("hi").Uint(0), "\x02\x01\x2c\x82\x01\x2b\x01\x01\x01\x02hi\x00"},
	} {
		wantBytes(t, x.q, []byte(x.want))
	}
}

func TestEachAnswersTheQuill(t *testing.T) {
	var q quill.Quill
	if q.Uint(1) != &q || q.Int(-1) != &q || q.Flag(true) != &q || q.Text("x") != &q || q.Flag(false) != &q || q.Int(0) != &q {
		t.Fatal("another quill")
	}
	wantBytes(t, &q, []byte("\x01\x01\x80\x01\x01\x01\x01x\x00\x00"))
	wantBytes(t, &q, []byte("\x01\x01\x80\x01\x01\x01\x01x\x00\x00")) // it is still there
	wantBytes(t, q.Uint(2), []byte("\x01\x01\x80\x01\x01\x01\x01x\x00\x00\x01\x02"))
}

func TestDoneIsNewMemory(t *testing.T) {
	q := new(quill.Quill)
	for k := range 100 {
		want := bytes.Clone(q.Done())
		p := q.Done()
		whole := p[:cap(p)] // the spare room too
		for at := range whole {
			whole[at] = 0xee
		}
		wantBytes(t, q, want)
		q.Uint(uint64(k)).Text("text")
		if !bytes.HasPrefix(q.Done(), want) || !bytes.Equal(whole, bytes.Repeat([]byte{0xee}, len(whole))) {
			t.Fatalf("% x", q.Done())
		}
	}
}

func TestQuillsAreApart(t *testing.T) {
	var a, b quill.Quill
	a.Uint(1)
	b.Text("b")
	a.Uint(2)
	wantBytes(t, &a, []byte("\x01\x01\x01\x02"))
	wantBytes(t, &b, []byte("\x01\x01b"))
}

func TestNilQuill(t *testing.T) {
	var q *quill.Quill
	if q.Uint(1) != nil || q.Int(-1) != nil || q.Flag(true) != nil || q.Flag(false) != nil || q.Text("x") != nil || q.Text("") != nil || len(q.Done()) != 0 {
		t.Fatal("nil")
	}
}

// P8.2: what a Lens reads.

func TestEachNumberIsReadBack(t *testing.T) {
	for _, n := range numbers() {
		p := append(model(0, n), 7)
		for _, most := range []uint64{n, n + 1, math.MaxUint64} {
			if most < n {
				continue
			}
			l := quill.Look(p)
			if got := l.Uint(most); got != n {
				t.Fatalf("Uint(%d) of % x is %d", most, p, got)
			}
			wantLeft(t, "Uint", l, 1)
		}
		for _, i := range []int64{int64(n), -int64(n)} {
			l := quill.Look(modelInt(i))
			if got := l.Int(); got != i {
				t.Fatalf("Int of % x is %d, want %d", modelInt(i), got, i)
			}
			wantLeft(t, "Int", l, 0)
		}
	}
}

func TestAboveMost(t *testing.T) {
	for _, n := range numbers() {
		for _, most := range []uint64{0, n / 2, n - 1} {
			if most >= n {
				continue
			}
			l := quill.Look(append(model(0, n), 1, 1))
			if got := l.Uint(most); got != 0 {
				t.Fatalf("Uint(%d) of %d is %d", most, n, got)
			}
			wantWrong(t, "a Uint above most", l)
		}
		if n > 1 {
			l := quill.Look(append(model(0, n), 1, 1))
			if l.Flag() {
				t.Fatal("Flag of ", n)
			}
			wantWrong(t, "a Flag above 1", l)
		}
		if n > math.MaxInt64 {
			for _, mark := range []byte{0, 128} {
				l := quill.Look(append(model(mark, n), 1, 1))
				if got := l.Int(); got != 0 {
					t.Fatalf("Int of %d is %d", n, got)
				}
				wantWrong(t, "an Int of more than 64 bits", l)
			}
		}
	}
}

func TestFlags(t *testing.T) {
	l := quill.Look([]byte("\x01\x01\x00\x01\x01"))
	if !l.Flag() || l.Flag() || !l.Flag() || l.End() != nil {
		t.Fatal("flags")
	}
}

func TestText(t *testing.T) {
	for _, s := range []string{"", "a", "hi", "\x00", "\xff\xfe\xc3", "ä€", "a\nb", strings.Repeat("x", 255), strings.Repeat("y", 256), strings.Repeat("z", 70000)} {
		p := append(append(model(0, uint64(len(s))), s...), 7, 8)
		for _, most := range []int{len(s), len(s) + 1, math.MaxInt} {
			l := quill.Look(p)
			if got := l.Text(most); got != s {
				t.Fatalf("Text(%d) of %q is %q", most, s, got)
			}
			wantLeft(t, "Text", l, 2)
		}
		for _, most := range []int{len(s) - 1, 0, -1, math.MinInt} {
			if most < len(s) && s != "" {
				l := quill.Look(p)
				if got := l.Text(most); got != "" {
					t.Fatalf("Text(%d) of %q is %q", most, s, got)
				}
				wantWrong(t, "a Text above most", l)
			}
		}
		for short := range min(len(s), 4) {
			l := quill.Look(append(model(0, uint64(len(s))), s[:short]...))
			if got := l.Text(len(s)); got != "" {
				t.Fatalf("Text of %d bytes of %q is %q", short, s, got)
			}
			wantWrong(t, "a Text of too few bytes", l)
		}
	}
}

func TestTextBelowNoneIsOfNone(t *testing.T) {
	for _, most := range []int{0, -1, -100, math.MinInt} {
		l := quill.Look([]byte("\x00\x01\x05"))
		if l.Text(most) != "" {
			t.Fatal(most)
		}
		wantLeft(t, "an empty Text", l, 2)
		if l.Uint(5) != 5 || l.End() != nil {
			t.Fatal(most)
		}
	}
}

func TestWrongNumbers(t *testing.T) {
	for _, s := range []string{
		"", "\x01", "\x02\x01", "\x08\x01\x01\x01\x01\x01\x01\x01", // too few
		"\x09\x01\x01\x01\x01\x01\x01\x01\x01\x01", "\x0a\x01\x01\x01\x01\x01\x01\x01\x01\x01\x01", "\x7f" + strings.Repeat("\x01", 127), "\x10" + strings.Repeat("\x01", 16), // more than 8
		"\x01\x00", "\x02\x00\x05", "\x02\x00\x00", "\x08\x00\x01\x01\x01\x01\x01\x01\x01", // a nought in front
	} {
		for _, tail := range []string{"", "\x00", "\x01\x01"} {
			if tail != "" && (s == "" || s == "\x01" || len(s) > 1 && int(s[0]) > len(s)-1) {
				continue // no more too few
			}
			for _, r := range reads() {
				l := quill.Look([]byte(s + tail))
				if !r.zero(l) {
					t.Fatalf("%s of % x tells something", r.name, s+tail)
				}
				wantWrong(t, r.name, l)
			}
			if s != "" {
				marked := append([]byte{s[0] + 128}, s[1:]...)
				l := quill.Look(append(marked, tail...))
				if l.Int() != 0 {
					t.Fatalf("Int of % x", marked)
				}
				wantWrong(t, "Int", l)
			}
		}
	}
}

func TestMarkedIsAnIntAlone(t *testing.T) {
	for _, s := range []string{"\x80", "\x81\x05", "\x81\x01a", "\x82\x01\x2b", "\x88\x7f\xff\xff\xff\xff\xff\xff\xff", "\x80\x01\x01"} {
		for _, r := range reads() {
			if r.name == "Int" {
				continue
			}
			l := quill.Look([]byte(s))
			if !r.zero(l) {
				t.Fatalf("%s of % x tells something", r.name, s)
			}
			wantWrong(t, r.name, l)
		}
	}
	l := quill.Look([]byte("\x80\x81\x05"))
	if l.Int() != -1 || l.Int() != -6 || l.End() != nil {
		t.Fatal("marked")
	}
}

// Each list of bytes that is read is just what is written of it: nothing has two forms.
func TestOneFormOfEach(t *testing.T) {
	r := rand.New(rand.NewSource(8))
	var lists [][]byte
	for a := range 256 {
		lists = append(lists, []byte{byte(a)})
		for b := range 256 {
			lists = append(lists, []byte{byte(a), byte(b)})
		}
	}
	for range 20000 {
		p := make([]byte, 1+r.Intn(12))
		for k := range p {
			p[k] = byte(r.Intn(256) >> r.Intn(8))
		}
		p[0] = byte(r.Intn(2)<<7 | r.Intn(10))
		lists = append(lists, p)
	}
	for _, p := range lists {
		for _, back := range []func(l *quill.Lens) *quill.Quill{
			func(l *quill.Lens) *quill.Quill { return new(quill.Quill).Uint(l.Uint(math.MaxUint64)) },
			func(l *quill.Lens) *quill.Quill { return new(quill.Quill).Int(l.Int()) },
			func(l *quill.Lens) *quill.Quill { return new(quill.Quill).Flag(l.Flag()) },
			func(l *quill.Lens) *quill.Quill { return new(quill.Quill).Text(l.Text(math.MaxInt)) },
		} {
			l := quill.Look(p)
			q := back(l)
			if end := l.End(); end != nil && l.Rest() == 0 {
				if n := len(q.Done()); n != 1 || q.Done()[0] != 0 {
					t.Fatalf("% x isn't right and tells % x", p, q.Done())
				}
				continue
			}
			wantBytes(t, q, p[:len(p)-l.Rest()])
		}
	}
}

func TestManyInARow(t *testing.T) {
	r := rand.New(rand.NewSource(8))
	for range 300 {
		var q quill.Quill
		var want []any
		for range r.Intn(30) {
			switch n := r.Uint64() >> r.Intn(64); r.Intn(4) {
			case 0:
				q.Uint(n)
				want = append(want, n)
			case 1:
				q.Int(int64(n))
				want = append(want, int64(n))
			case 2:
				q.Flag(n%2 == 1)
				want = append(want, n%2 == 1)
			case 3:
				s := strings.Repeat(string(rune(n%1000)), int(n%300))
				q.Text(s)
				want = append(want, s)
			}
		}
		p := q.Done()
		wantRow(t, quill.Look(p), want)
		if len(p) > 0 {
			wantCut(t, p[:r.Intn(len(p))], want)
		}
	}
}

// next reads a thing of x's kind.
func next(l *quill.Lens, x any) any {
	switch x.(type) {
	case uint64:
		return l.Uint(math.MaxUint64)
	case int64:
		return l.Int()
	case bool:
		return l.Flag()
	}
	return l.Text(math.MaxInt)
}

func wantRow(t *testing.T, l *quill.Lens, want []any) {
	t.Helper()
	for k, x := range want {
		if got := next(l, x); got != x {
			t.Fatalf("%d: %v, want %v", k, got, x)
		}
	}
	wantLeft(t, "a row", l, 0)
}

// wantCut holds that of a row that breaks off the whole things are read, and no more.
func wantCut(t *testing.T, p []byte, want []any) {
	t.Helper()
	l := quill.Look(p)
	for _, x := range want {
		was := l.Rest()
		got := next(l, x)
		if l.End() != nil && l.Rest() == 0 {
			wantWrong(t, "cut off", l)
			return
		}
		if got != x || l.Rest() >= was {
			t.Fatalf("%v, want %v", got, x)
		}
	}
	t.Fatalf("all of % x is there", p)
}

func TestStaysWrong(t *testing.T) {
	l := quill.Look([]byte("\x01\x05\x01\x09\x01\x01\x01\x01\x01\x01a"))
	if l.Uint(5) != 5 || l.Rest() != 9 {
		t.Fatal("right at first")
	}
	if l.Uint(8) != 0 {
		t.Fatal("above most")
	}
	wantWrong(t, "what is behind a fault", l)
}

// Rest and End.

func TestRestAndEnd(t *testing.T) {
	l := quill.Look([]byte("\x01\x05\x80\x00\x01\x02hi"))
	for k, rest := range []int{8, 6, 5, 4, 0} {
		switch k {
		case 1:
			l.Uint(5)
		case 2:
			l.Int()
		case 3:
			l.Flag()
		case 4:
			l.Text(2)
		}
		wantLeft(t, "step by step", l, rest)
		wantLeft(t, "asked again", l, rest)
	}
	l.Uint(0)
	wantWrong(t, "behind the end", l)
}

func TestLookAtNothing(t *testing.T) {
	for _, p := range [][]byte{nil, {}} {
		wantLeft(t, "nothing", quill.Look(p), 0)
		l := quill.Look(p)
		l.Flag()
		wantWrong(t, "read of nothing", l)
	}
}

func TestNilLens(t *testing.T) {
	var l *quill.Lens
	wantWrong(t, "nil", l)
	if l.Uint(0) != 0 || l.Text(0) != "" || l.Text(-1) != "" {
		t.Fatal("nil")
	}
	wantWrong(t, "nil", l)
}

// What is handed in isn't changed and not kept.

func TestLookKeepsNothing(t *testing.T) {
	room := []byte("\x01\x05\x01\x02hi\x01\x07")
	p := room[:6]
	l, other := quill.Look(p), quill.Look(p)
	if l.Uint(5) != 5 || string(room) != "\x01\x05\x01\x02hi\x01\x07" {
		t.Fatalf("% x", room)
	}
	for k := range room {
		room[k] = 0xee
	}
	if l.Text(2) != "hi" || l.End() != nil || other.Uint(5) != 5 || other.Text(2) != "hi" || other.End() != nil {
		t.Fatal("it was kept")
	}
	if !bytes.Equal(room, bytes.Repeat([]byte{0xee}, len(room))) {
		t.Fatalf("% x", room)
	}
}
