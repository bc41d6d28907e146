package sha

import (
	"crypto/sha256"
	"encoding/binary"
	"encoding/hex"
	"math"
	"math/rand"
	"slices"
	"strings"
	"testing"
)

func reference(s string) string {
	d := sha256.Sum256([]byte(s))
	return string(d[:])
}

// P2.1
func TestSumKnown(t *testing.T) {
	cases := []struct{ text, want string }{
		{"", "e3b0c44298fc1c149afbf4c8996fb92427ae41e4649b934ca495991b7852b855"},
		{"abc", "ba7816bf8f01cfea414140de5dae2223b00361a396177a9cb410ff61f20015ad"},
		{
			"abcdbcdecdefdefgefghfghighijhijkijkljklmklmnlmnomnopnopq",
			"248d6a61d20638b8e5c026930c3e6039a33ce45964ff2167f6ecedd419db06c1",
		},
		{
			"abcdefghbcdefghicdefghijdefghijkefghijklfghijklmghijklmnhijklmnoijklmnopjklmnopqklmnopqrlmnopqrsmnopqrstnopqrstu",
			"cf5b16a778af8380036ce59e7b0492370b249b11e8f07a51afac45037afee9d1",
		},
		{strings.Repeat("a", 1000000), "cdc76e5c9914fb9281a1c7e284d73e67f1809a48a497200e046d39ccc7112cd0"},
	}
	for _, c := range cases {
		if got := hex.EncodeToString([]byte(Sum(c.text))); got != c.want {
			t.Errorf("Sum of %d bytes: %s, want %s", len(c.text), got, c.want)
		}
	}
}

// P2.1: all lengths around the ends of the first blocks (55, 56, 63, 64, 119, 120, 127, 128 ..), of unlike bytes.
func TestSumLengths(t *testing.T) {
	random := rand.New(rand.NewSource(2))
	b := make([]byte, 400)
	random.Read(b)
	for n := range b {
		for _, s := range []string{string(b[:n]), strings.Repeat("\x00", n), strings.Repeat("\x80", n), strings.Repeat("\xff", n)} {
			if Sum(s) != reference(s) {
				t.Errorf("Sum of %d bytes", n)
			}
		}
	}
}

// P2.1: the length in bits takes more than one, two and three bytes.
func TestSumLong(t *testing.T) {
	for _, n := range []int{8191, 8192, 65535, 65536, 1<<21 - 1, 1 << 21, 1<<21 + 55} {
		s := strings.Repeat("p", n)
		if Sum(s) != reference(s) {
			t.Errorf("Sum of %d bytes", n)
		}
	}
}

// P2.1: a digest hangs on its bytes alone, not on what was summed ahead.
func TestSumTwice(t *testing.T) {
	for range 3 {
		if Sum("abc") != reference("abc") || Sum(strings.Repeat("z", 130)) != reference(strings.Repeat("z", 130)) {
			t.Error("a later Sum is another one")
		}
	}
}

// inputOf is the input, made in another way.
func inputOf(tag byte, parts []string) string {
	out := []byte{tag}
	for _, p := range parts {
		out = binary.BigEndian.AppendUint32(out, uint32(len(p)))
		out = append(out, p...)
	}
	return string(out)
}

// P2.2
func TestInput(t *testing.T) {
	cases := []struct {
		tag   int
		parts []string
		want  string
	}{
		{7, []string{"ab", ""}, "\x07\x00\x00\x00\x02ab\x00\x00\x00\x00"},
		{0, nil, "\x00"},
		{255, nil, "\xff"},
		{1, []string{""}, "\x01\x00\x00\x00\x00"},
		{1, []string{"", ""}, "\x01\x00\x00\x00\x00\x00\x00\x00\x00"},
		{2, []string{"\x00"}, "\x02\x00\x00\x00\x01\x00"},
		{3, []string{strings.Repeat("x", 65535)}, "\x03\x00\x00\xff\xff" + strings.Repeat("x", 65535)},
		{3, []string{strings.Repeat("x", 65536), "y"}, "\x03\x00\x01\x00\x00" + strings.Repeat("x", 65536) + "\x00\x00\x00\x01y"},
	}
	for _, c := range cases {
		if got := Input(c.tag, c.parts...); got != c.want {
			t.Errorf("Input of the tag %d and %d texts: %d bytes, want %d", c.tag, len(c.parts), len(got), len(c.want))
		}
		if Tag(c.tag, c.parts...) != reference(c.want) {
			t.Errorf("Tag of the tag %d and %d texts", c.tag, len(c.parts))
		}
	}
}

// P2.2
func TestEachTag(t *testing.T) {
	for tag := range 256 {
		want := inputOf(byte(tag), []string{"a", "bc"})
		if Input(tag, "a", "bc") != want || Tag(tag, "a", "bc") != reference(want) {
			t.Errorf("the tag %d", tag)
		}
	}
}

// P2.2
func TestTagsBeyond(t *testing.T) {
	cases := []struct {
		tag  int
		want byte
	}{
		{256, 0}, {257, 1}, {511, 255}, {512, 0}, {65536 + 7, 7}, {1 << 32, 0}, {math.MaxInt, 255},
		{-1, 255}, {-7, 249}, {-255, 1}, {-256, 0}, {-257, 255}, {-1 << 32, 0}, {math.MinInt, 0}, {math.MinInt + 1, 1},
	}
	for _, c := range cases {
		want := inputOf(c.want, []string{"t"})
		if got := Input(c.tag, "t"); got != want {
			t.Errorf("Input of the tag %d: %q, want %q", c.tag, got, want)
		}
		if Tag(c.tag, "t") != reference(want) {
			t.Errorf("Tag of the tag %d", c.tag)
		}
	}
}

// P2.2, and DOC.md's rule 4: what is handed in isn't changed, nor its spare room.
func TestPartsUnchanged(t *testing.T) {
	room := []string{"a", "b", "c", "spare"}
	parts := room[:3]
	Input(1, parts...)
	Tag(1, parts...)
	Clash(parts)
	if !slices.Equal(room, []string{"a", "b", "c", "spare"}) {
		t.Errorf("changed to %q", room)
	}
}

// P2.3: no clash of SHA-256 is known, so Clash itself is never true here.
func TestClashNone(t *testing.T) {
	lists := [][]string{
		nil, {}, {""}, {"", ""}, {"a"}, {"a", "a"}, {"a", "b"}, {"a", "a", "b"}, {"a", "b", "a", "b"},
		{"", "\x00", "\x00\x00", "\x80"}, {strings.Repeat("a", 64), strings.Repeat("a", 65), strings.Repeat("a", 64)},
	}
	for _, texts := range lists {
		if i, j, ok := Clash(texts); i != 0 || j != 0 || ok {
			t.Errorf("Clash(%q): %d, %d, %v", texts, i, j, ok)
		}
	}
}

// initial is a digest under which texts clash that begin alike.
func initial(s string) string {
	return s[:1]
}

// P2.3
func TestClashOrder(t *testing.T) {
	cases := []struct {
		texts     []string
		low, high int
		ok        bool
	}{
		{nil, 0, 0, false},
		{[]string{"a1"}, 0, 0, false},
		{[]string{"a1", "a1", "b1", "b1"}, 0, 0, false},
		{[]string{"a1", "a2"}, 0, 1, true},
		{[]string{"a1", "a1", "a2"}, 0, 2, true},
		{[]string{"a1", "a2", "a3"}, 0, 1, true},
		{[]string{"b1", "a1", "a2"}, 1, 2, true},
		{[]string{"a1", "b1", "b2", "a2"}, 0, 3, true},
		{[]string{"a1", "b1", "b2", "a1"}, 1, 2, true},
		{[]string{"c1", "a1", "b1", "b2", "a1", "a3", "c1"}, 1, 5, true},
	}
	for _, c := range cases {
		if low, high, ok := clashBy(c.texts, initial); low != c.low || high != c.high || ok != c.ok {
			t.Errorf("clash of %q: %d, %d, %v, want %d, %d, %v", c.texts, low, high, ok, c.low, c.high, c.ok)
		}
	}
}

// slowClash goes through all pairs, as the document tells it.
func slowClash(texts []string, sum func(string) string) (int, int, bool) {
	for i := range texts {
		for j := range texts {
			if texts[i] != texts[j] && sum(texts[i]) == sum(texts[j]) {
				return i, j, true
			}
		}
	}
	return 0, 0, false
}

// P2.3
func TestClashAsSlow(t *testing.T) {
	random := rand.New(rand.NewSource(3))
	for range 2000 {
		texts := make([]string, random.Intn(7))
		for i := range texts {
			texts[i] = string([]byte{byte('a' + random.Intn(4)), byte('1' + random.Intn(2))})
		}
		low, high, ok := clashBy(texts, initial)
		wantLow, wantHigh, wantOk := slowClash(texts, initial)
		if low != wantLow || high != wantHigh || ok != wantOk {
			t.Fatalf("clash of %q: %d, %d, %v, want %d, %d, %v", texts, low, high, ok, wantLow, wantHigh, wantOk)
		}
	}
}

// P2.3: many texts are gone through once, not pair by pair.
func TestClashMany(t *testing.T) {
	texts := make([]string, 50000)
	for i := range texts {
		texts[i] = string(binary.BigEndian.AppendUint32(nil, uint32(i/2)))
	}
	if _, _, ok := Clash(texts); ok {
		t.Error("a clash that is none")
	}
}

// textLists is all lists of at most so many of the texts.
func textLists(texts []string, most int) [][]string {
	lists := [][]string{nil}
	from := 0
	for range most {
		until := len(lists)
		for _, list := range lists[from:until] {
			for _, text := range texts {
				lists = append(lists, append(slices.Clone(list), text))
			}
		}
		from = until
	}
	return lists
}

// P2.4: the texts are chosen so that lists run together where lengths aren't laid ahead of each text.
func TestInputsUnlike(t *testing.T) {
	texts := []string{"", "\x00", "\x00\x00\x00\x00", "\x00\x00\x00\x01", "\x00\x00\x00\x01\x00", "a", "aa", "\x00\x00\x00\x01a"}
	inputs := make(map[string]bool)
	count := 0
	for _, tag := range []int{0, 1, 97, 255} {
		for _, list := range textLists(texts, 3) {
			inputs[Input(tag, list...)] = true
			count++
		}
	}
	if len(inputs) != count {
		t.Errorf("%d unlike tags and lists have %d inputs", count, len(inputs))
	}
}
