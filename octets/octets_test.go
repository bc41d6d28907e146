package octets_test

import (
	"math"
	"math/rand"
	"strings"
	"testing"

	"palaver/api"
	"palaver/octets"
)

type numberCase struct {
	n    int
	want string
	ok   bool
}

func checkNumbers(t *testing.T, name string, lay func(int) (string, bool), cases []numberCase) {
	t.Helper()
	for _, c := range cases {
		if got, ok := lay(c.n); got != c.want || ok != c.ok {
			t.Errorf("%s(%d): %q, %v, want %q, %v", name, c.n, got, ok, c.want, c.ok)
		}
	}
}

// P1.1
func TestByte(t *testing.T) {
	checkNumbers(t, "Byte", octets.Byte, []numberCase{
		{0, "\x00", true}, {1, "\x01", true}, {97, "a", true}, {127, "\x7f", true}, {128, "\x80", true}, {255, "\xff", true},
		{256, "", false}, {257, "", false}, {65536, "", false}, {1 << 32, "", false},
		{-1, "", false}, {-255, "", false}, {-256, "", false}, {math.MinInt, "", false}, {math.MaxInt, "", false},
	})
}

// P1.1
func TestShort(t *testing.T) {
	checkNumbers(t, "Short", octets.Short, []numberCase{
		{0, "\x00\x00", true}, {1, "\x00\x01", true}, {255, "\x00\xff", true}, {256, "\x01\x00", true}, {258, "\x01\x02", true},
		{32768, "\x80\x00", true}, {65534, "\xff\xfe", true}, {65535, "\xff\xff", true},
		{65536, "", false}, {65537, "", false}, {1 << 32, "", false},
		{-1, "", false}, {-65535, "", false}, {-65536, "", false}, {math.MinInt, "", false}, {math.MaxInt, "", false},
	})
}

// P1.1
func TestLong(t *testing.T) {
	checkNumbers(t, "Long", octets.Long, []numberCase{
		{0, "\x00\x00\x00\x00", true}, {1, "\x00\x00\x00\x01", true}, {255, "\x00\x00\x00\xff", true},
		{256, "\x00\x00\x01\x00", true}, {65536, "\x00\x01\x00\x00", true}, {0x01020304, "\x01\x02\x03\x04", true},
		{1 << 31, "\x80\x00\x00\x00", true}, {1<<32 - 2, "\xff\xff\xff\xfe", true}, {1<<32 - 1, "\xff\xff\xff\xff", true},
		{1 << 32, "", false}, {1<<32 + 1, "", false}, {1 << 62, "", false},
		{-1, "", false}, {-1 << 31, "", false}, {-1 << 32, "", false}, {math.MinInt, "", false}, {math.MaxInt, "", false},
	})
}

// P1.1
func TestText(t *testing.T) {
	full := strings.Repeat("x", api.MaxText)
	cases := []struct {
		text, want string
		ok         bool
	}{
		{"", "\x00\x00", true},
		{"ab", "\x00\x02ab", true},
		{"\x00\xff", "\x00\x02\x00\xff", true},
		{"é", "\x00\x02\xc3\xa9", true},
		{strings.Repeat("y", 255), "\x00\xff" + strings.Repeat("y", 255), true},
		{strings.Repeat("y", 256), "\x01\x00" + strings.Repeat("y", 256), true},
		{full[1:], "\xff\xfe" + full[1:], true},
		{full, "\xff\xff" + full, true},
		{full + "x", "", false},
		{full + full, "", false},
	}
	for _, c := range cases {
		if got, ok := octets.Text(c.text); got != c.want || ok != c.ok {
			t.Errorf("Text of %d bytes: %d bytes, %v, want %d bytes, %v", len(c.text), len(got), ok, len(c.want), c.ok)
		}
	}
}

func checkGood(t *testing.T, r *octets.Reader, left int) {
	t.Helper()
	if !r.Good() || r.Left() != left || r.End() != (left == 0) {
		t.Errorf("good %v, left %d, end %v, want a good one with %d left", r.Good(), r.Left(), r.End(), left)
	}
}

// checkBad asks each call twice, as a bad reader must stay so.
func checkBad(t *testing.T, r *octets.Reader) {
	t.Helper()
	for range 2 {
		if r.Good() || r.End() || r.Left() != 0 {
			t.Errorf("good %v, end %v, left %d, want a bad one", r.Good(), r.End(), r.Left())
		}
		if r.Byte() != 0 || r.Short() != 0 || r.Long() != 0 || r.Text() != "" {
			t.Error("a bad reader tells something")
		}
		for _, n := range []int{math.MinInt, -1, 0, 1, math.MaxInt} {
			if r.Take(n) != "" {
				t.Errorf("Take(%d) of a bad reader tells something", n)
			}
		}
	}
}

// P1.2
func TestReadInOrder(t *testing.T) {
	r := octets.Read("\xfe\x01\x02\xff\xfe\xfd\xfc\x00\x02ab" + "xyz\x00\x00" + "rest")
	checkGood(t, r, 20)
	if n := r.Byte(); n != 254 {
		t.Errorf("Byte: %d", n)
	}
	checkGood(t, r, 19)
	if n := r.Short(); n != 258 {
		t.Errorf("Short: %d", n)
	}
	checkGood(t, r, 17)
	if n := r.Long(); n != 0xfffefdfc {
		t.Errorf("Long: %d", n)
	}
	checkGood(t, r, 13)
	if s := r.Text(); s != "ab" {
		t.Errorf("Text: %q", s)
	}
	checkGood(t, r, 9)
	if s := r.Take(3); s != "xyz" {
		t.Errorf("Take: %q", s)
	}
	checkGood(t, r, 6)
	if s := r.Text(); s != "" {
		t.Errorf("Text: %q", s)
	}
	checkGood(t, r, 4)
	if s := r.Take(0); s != "" {
		t.Errorf("Take of 0: %q", s)
	}
	checkGood(t, r, 4)
	if s := r.Take(4); s != "rest" {
		t.Errorf("Take of all: %q", s)
	}
	checkGood(t, r, 0)
	if s := r.Take(0); s != "" {
		t.Errorf("Take of 0 at the end: %q", s)
	}
	checkGood(t, r, 0)
}

// P1.2
func TestReadGreatest(t *testing.T) {
	full := strings.Repeat("\xff", api.MaxText)
	r := octets.Read("\xff\xff\xff\xff\xff\xff\xff" + "\xff\xff" + full)
	if r.Byte() != 255 || r.Short() != 65535 || r.Long() != 1<<32-1 || r.Text() != full {
		t.Error("the greatest are read as something else")
	}
	checkGood(t, r, 0)
}

// P1.2
func TestReadEmpty(t *testing.T) {
	checkGood(t, octets.Read(""), 0)
}

// P1.2
func TestReadTooFew(t *testing.T) {
	short := func(r *octets.Reader) bool { return r.Short() == 0 }
	long := func(r *octets.Reader) bool { return r.Long() == 0 }
	text := func(r *octets.Reader) bool { return r.Text() == "" }
	take := func(n int) func(*octets.Reader) bool {
		return func(r *octets.Reader) bool { return r.Take(n) == "" }
	}
	cases := []struct {
		name, bytes string
		read        func(*octets.Reader) bool
	}{
		{"Byte of none", "", func(r *octets.Reader) bool { return r.Byte() == 0 }},
		{"Short of none", "", short},
		{"Short of one", "\x01", short},
		{"Long of none", "", long},
		{"Long of three", "\x01\x02\x03", long},
		{"Text of none", "", text},
		{"Text of half a length", "\x00", text},
		{"Text without its bytes", "\x00\x01", text},
		{"Text with a byte too few", "\x00\x03ab", text},
		{"Text of MaxText less one", "\xff\xff" + strings.Repeat("x", api.MaxText-1), text},
		{"Take of one too many", "abc", take(4)},
		{"Take of one of none", "", take(1)},
		{"Take below 0", "abc", take(-1)},
		{"Take below 0 of none", "", take(-1)},
		{"Take of the least", "abc", take(math.MinInt)},
		{"Take of the greatest", "abc", take(math.MaxInt)},
	}
	for _, c := range cases {
		t.Run(c.name, func(t *testing.T) {
			r := octets.Read(c.bytes)
			if !c.read(r) {
				t.Error("it tells something")
			}
			checkBad(t, r)
		})
	}
}

// P1.2: bytes that are still there aren't told by a reader that went bad in front of them.
func TestBadTellsNoRest(t *testing.T) {
	r := octets.Read("abcdefgh")
	r.Take(9)
	checkBad(t, r)
	r = octets.Read("\x01\x02\x03\x04\x05\x06\x07\x08")
	r.Text()
	checkBad(t, r)
}

// P1.2
func TestNilReader(t *testing.T) {
	checkBad(t, nil)
}

// P1.2
func TestReadersAreApart(t *testing.T) {
	a, b := octets.Read("abc"), octets.Read("abc")
	a.Take(4)
	checkBad(t, a)
	if b.Take(2) != "ab" {
		t.Error("a reader was moved by another one")
	}
	checkGood(t, b, 1)
}

// item is something laid, with how it is read again.
type item struct {
	laid string
	same func(r *octets.Reader) bool
}

func itemOf(laid string, ok bool, same func(r *octets.Reader) bool) item {
	if !ok {
		panic("an item that may not be")
	}
	return item{laid, same}
}

func numberItem(n int, lay func(int) (string, bool), read func(*octets.Reader) int) item {
	laid, ok := lay(n)
	return itemOf(laid, ok, func(r *octets.Reader) bool { return read(r) == n })
}

func textItem(s string) item {
	laid, ok := octets.Text(s)
	return itemOf(laid, ok, func(r *octets.Reader) bool { return r.Text() == s })
}

func someItem(random *rand.Rand) item {
	switch random.Intn(5) {
	case 0:
		return numberItem(random.Intn(1<<8), octets.Byte, (*octets.Reader).Byte)
	case 1:
		return numberItem(random.Intn(1<<16), octets.Short, (*octets.Reader).Short)
	case 2:
		return numberItem(random.Intn(1<<32), octets.Long, (*octets.Reader).Long)
	case 3:
		return textItem(someBytes(random))
	default:
		s := someBytes(random)
		return itemOf(s, true, func(r *octets.Reader) bool { return r.Take(len(s)) == s })
	}
}

func someBytes(random *rand.Rand) string {
	b := make([]byte, random.Intn(20))
	random.Read(b)
	return string(b)
}

// P1.3
func TestLaidIsRead(t *testing.T) {
	random := rand.New(rand.NewSource(1))
	for range 200 {
		laid := ""
		items := make([]item, random.Intn(8))
		for i := range items {
			items[i] = someItem(random)
			laid += items[i].laid
		}
		r := octets.Read(laid)
		for i, x := range items {
			if !x.same(r) || !r.Good() {
				t.Fatalf("%q: item %d is read as something else", laid, i)
			}
		}
		checkGood(t, r, 0)
		checkCuts(t, laid, items)
	}
}

func checkCuts(t *testing.T, laid string, items []item) {
	t.Helper()
	for cut := range len(laid) {
		r := octets.Read(laid[:cut])
		for _, x := range items {
			x.same(r)
		}
		if r.Good() || r.End() {
			t.Fatalf("%q: cut at %d it is read to the end", laid, cut)
		}
	}
}

// P1.3
func TestEachByteAndShortIsRead(t *testing.T) {
	for n := range 1 << 16 {
		if x := numberItem(n, octets.Short, (*octets.Reader).Short); !x.same(octets.Read(x.laid)) {
			t.Fatalf("Short %d", n)
		}
		if n > 255 {
			continue
		}
		if x := numberItem(n, octets.Byte, (*octets.Reader).Byte); !x.same(octets.Read(x.laid)) {
			t.Fatalf("Byte %d", n)
		}
	}
}

// P1.3
func TestGreatestTextIsRead(t *testing.T) {
	x := textItem(strings.Repeat("long", 16384)[:api.MaxText])
	r := octets.Read(x.laid)
	if !x.same(r) {
		t.Error("a text of MaxText bytes is read as something else")
	}
	checkGood(t, r, 0)
	r = octets.Read(x.laid[:len(x.laid)-1])
	r.Text()
	checkBad(t, r)
}
