package bloom_test

import (
	"encoding/hex"
	"math"
	"math/rand"
	"slices"
	"strconv"
	"strings"
	"testing"
	"unsafe"

	"palaver/bloom"
	"palaver/sha"
)

const (
	idSize  = 32
	maxBits = 4096
)

// numbered is an id: the digest of a number, written.
func numbered(n int) string {
	return sha.Sum(strconv.Itoa(n))
}

func numberedFrom(first, count int) []string {
	var out []string
	for i := range count {
		out = append(out, numbered(first+i))
	}
	return out
}

func unhex(s string) string {
	out, err := hex.DecodeString(s)
	if err != nil {
		panic(err)
	}
	return string(out)
}

func hexOf(s string) string {
	return hex.EncodeToString([]byte(s))
}

// headed is an id with these bytes ahead.
func headed(ahead string) string {
	return ahead + strings.Repeat("\x00", idSize-len(ahead))
}

// wrongIds are texts that are no ids: of all lengths about that of one.
func wrongIds() []string {
	var out []string
	for n := range 100 {
		if n != idSize {
			out = append(out, strings.Repeat("\x00", n), strings.Repeat("w", n))
		}
	}
	return append(out, strings.Repeat("w", 4096), strings.Repeat("w", 65536))
}

func checkSize(t *testing.T, n, want int) {
	t.Helper()
	if got := bloom.Size(n); got != want {
		t.Errorf("Size(%d): %d, not %d", n, got, want)
	}
}

func checkPlaces(t *testing.T, id string, m int, want ...int) {
	t.Helper()
	if got := bloom.Places(id, m); !slices.Equal(got, want) {
		t.Errorf("Places(%x, %d): %d, not %d", id, m, got, want)
	}
}

func checkHas(t *testing.T, bits, id string, want bool) {
	t.Helper()
	if got := bloom.Has(bits, id); got != want {
		t.Errorf("Has(%d bytes %.20x, %.40x): %v, not %v", len(bits), bits, id, got, want)
	}
}

// P14.1: the chapter's examples, and both sides of each step.
func TestSizeSteps(t *testing.T) {
	for _, c := range [][2]int{
		{0, 64}, {1, 64}, {6, 64}, {7, 128},
		{12, 128}, {13, 256},
		{25, 256}, {26, 512},
		{51, 512}, {52, 1024},
		{64, 1024},
		{102, 1024}, {103, 2048},
		{204, 2048}, {205, 4096},
		{300, 4096}, {409, 4096}, {410, 4096}, {1000, 4096},
	} {
		checkSize(t, c[0], c[1])
	}
}

// P14.1: 4096, if ten times n is more: also if no int holds it.
func TestSizeOfMany(t *testing.T) {
	for _, n := range []int{
		4095, 4096, 4097, 65535, 1 << 31, 1 << 32,
		math.MaxInt/10 - 1, math.MaxInt / 10, math.MaxInt/10 + 1, math.MaxInt/5 + 1,
		1 << 60, 1 << 61, 1 << 62, 1<<62 + 1, 1<<63/10*2 + 2, math.MaxInt - 1, math.MaxInt,
	} {
		checkSize(t, n, maxBits)
	}
}

// P14.1: 64 of an n below 0.
func TestSizeBelowNothing(t *testing.T) {
	for _, n := range []int{-1, -6, -7, -64, -410, -1 << 32, math.MinInt / 10, math.MinInt/10 - 1, -1 << 62, math.MinInt + 1, math.MinInt} {
		checkSize(t, n, 64)
	}
}

// P14.1
func TestSizeOfEachCount(t *testing.T) {
	for n := -20; n <= 5000; n++ {
		checkSize(t, n, modelSize(n))
	}
}

// P14.1, by numbers of another program.
func TestPlacesThatAreKnown(t *testing.T) {
	zeros, ones := strings.Repeat("\x00", idSize), strings.Repeat("\xff", idSize)
	checkPlaces(t, zeros, 64, 0, 1, 2, 3)
	checkPlaces(t, zeros, 4096, 0, 1, 2, 3)
	checkPlaces(t, ones, 64, 63, 62, 61, 60)
	checkPlaces(t, ones, 4096, 4095, 4094, 4093, 4092)
	rising := unhex("000102030405060708090a0b0c0d0e0f101112131415161718191a1b1c1d1e1f")
	checkPlaces(t, rising, 64, 3, 10, 17, 24)
	checkPlaces(t, rising, 4096, 515, 2058, 3601, 1048)
	checkPlaces(t, strings.Repeat("a", idSize), 64, 33, 2, 35, 4)
	checkPlaces(t, numbered(0), 64, 38, 31, 24, 17)
	checkPlaces(t, numbered(0), 4096, 2918, 2719, 2520, 2321)
	checkPlaces(t, numbered(1), 64, 51, 20, 53, 22)
	checkPlaces(t, numbered(1), 4096, 627, 3924, 3125, 2326)
}

// P14.1: m is any number from 1 to 4096, so sums that no 32 bits hold mustn't wrap round.
func TestPlacesAmongNoPowerOfTwo(t *testing.T) {
	ones := strings.Repeat("\xff", idSize)
	checkPlaces(t, ones, 7, 3, 6, 2, 5)
	checkPlaces(t, ones, 100, 95, 90, 85, 80)
	checkPlaces(t, ones, 1000, 295, 590, 885, 180)
	checkPlaces(t, ones, 4095, 255, 510, 765, 1020)
	checkPlaces(t, headed("\x80"), 1000, 648, 649, 650, 651)
	checkPlaces(t, numbered(0), 1000, 278, 31, 784, 537)
	checkPlaces(t, numbered(1), 4095, 2889, 3193, 3497, 3801)
}

// P14.1: the lowest bit of b is set, whether it was or not.
func TestPlacesWithAnEvenStep(t *testing.T) {
	for _, step := range []string{"\x00\x00\x00\x02", "\x00\x00\x00\x03"} {
		checkPlaces(t, headed("\x00\x00\x00\x05"+step), 4096, 5, 8, 11, 14)
	}
	checkPlaces(t, headed("\x00\x00\x00\x05\x00\x00\x00\x00"), 4096, 5, 6, 7, 8)
	checkPlaces(t, headed("\x00\x00\x00\x05\x00\x00\x10\x00"), 4096, 5, 6, 7, 8)
}

// P14.1: the highest byte first, and the id's first eight bytes alone.
func TestPlacesByTheFirstBytes(t *testing.T) {
	checkPlaces(t, headed("\x01\x00\x00\x00\x00\x00\x00\x00"), 4095, 1, 2, 3, 4)
	checkPlaces(t, headed("\x00\x01\x00\x00\x00\x00\x00\x00"), 4095, 16, 17, 18, 19)
	checkPlaces(t, headed("\x00\x00\x01\x00\x00\x00\x00\x00"), 4095, 256, 257, 258, 259)
	checkPlaces(t, headed("\x00\x00\x00\x00\x00\x00\x01\x00"), 4095, 0, 257, 514, 771)
	checkPlaces(t, headed("\x00\x00\x00\x00\x01\x00\x00\x00"), 4095, 0, 2, 4, 6)
	id := numbered(3)
	for at := 8; at < idSize; at++ {
		other := []byte(id)
		other[at] ^= 0xff
		checkPlaces(t, string(other), 4096, bloom.Places(id, 4096)...)
	}
}

// P14.1: four numbers, also if some of them are the same.
func TestPlacesThatFallTogether(t *testing.T) {
	for _, id := range []string{headed(""), headed("\xff"), numbered(5)} {
		checkPlaces(t, id, 1, 0, 0, 0, 0)
	}
	checkPlaces(t, headed(""), 2, 0, 1, 0, 1)
	checkPlaces(t, headed(""), 3, 0, 1, 2, 0)
	checkPlaces(t, headed("\x00\x00\x00\x02\x00\x00\x00\x03"), 3, 2, 2, 2, 2)
}

// P14.1: none of an id that hasn't 32 bytes.
func TestPlacesOfNoId(t *testing.T) {
	for _, id := range wrongIds() {
		for _, m := range []int{1, 8, 64, 1000, maxBits} {
			if got := bloom.Places(id, m); len(got) != 0 {
				t.Errorf("Places of %d bytes among %d: %d", len(id), m, got)
			}
		}
	}
}

// P14.1: none if m isn't from 1 to 4096.
func TestPlacesAmongTooFewOrTooMany(t *testing.T) {
	for _, id := range []string{headed(""), strings.Repeat("\xff", idSize), numbered(0)} {
		for _, m := range []int{math.MinInt, -1 << 32, -4096, -64, -1, 0, 4097, 4104, 8192, 65536, 1 << 32, 1<<32 + 64, math.MaxInt} {
			if got := bloom.Places(id, m); len(got) != 0 {
				t.Errorf("Places(%x, %d): %d", id, m, got)
			}
		}
		for _, m := range []int{1, maxBits} {
			if got := bloom.Places(id, m); len(got) != 4 {
				t.Errorf("Places(%x, %d): %d", id, m, got)
			}
		}
	}
}

// P14.1
func TestPlacesAmongEachCount(t *testing.T) {
	ids := append(numberedFrom(0, 5), strings.Repeat("\xff", idSize), headed("\xff\xff\xff\xff"), headed("\x00\x00\x00\x00\xff\xff\xff\xff"))
	for m := -2; m <= maxBits+2; m++ {
		for _, id := range ids {
			checkPlaces(t, id, m, modelPlaces(id, m)...)
		}
	}
}

// P14.2: the chapter's example, and bits of another program.
func TestMakeThatIsKnown(t *testing.T) {
	for _, c := range []struct {
		ids  []string
		want string
	}{
		{nil, "0000000000000000"},
		{[]string{}, "0000000000000000"},
		{[]string{headed("")}, "0f00000000000000"},
		{[]string{headed("\x00\x00\x00\x06")}, "c003000000000000"},
		{[]string{strings.Repeat("\xff", idSize)}, "00000000000000f0"},
		{numberedFrom(0, 1), "0000028140000000"},
		{numberedFrom(0, 6), "a0105b894003a864"},
		{numberedFrom(0, 7), "a00043894003604400111801400088e0"},
		{numberedFrom(0, 25), "f0a06701c947f66441011888e90289a02022828948430c4380350e310421a146"},
	} {
		if got := hexOf(bloom.Make(c.ids)); got != c.want {
			t.Errorf("Make of %d ids: %s, not %s", len(c.ids), got, c.want)
		}
	}
	for _, c := range []struct {
		count, size int
		sum         string
	}{
		{26, 64, "57d0f09bdec5b275a9d1ba6eb34d1883d591c8af39c6b31e130e446a6a2547a4"},
		{64, 128, "b774310b33fe1e6e5e05b5e30e1b8435837fbc0af022226b377e6823bba5b5e5"},
		{300, 512, "50fc042417a53eb6ab39f22ced402f0afcef24d6e49952ca0d7ad4a5b02eeb19"},
		{409, 512, "df6689141764526bd81a802840282b29ceff36cd04baee2a6217b45833959bc4"},
		{410, 512, "34fbd4c90c8861bee85836a4bd109151e5c3e4937c446bc7a84846460c68b0e2"},
		{1000, 512, "2bfc0a8eca255a7dd61fa557d95ffc05edde76eaa427f55d1251f3ef0a7c3e45"},
	} {
		got := bloom.Make(numberedFrom(0, c.count))
		if len(got) != c.size || hexOf(sha.Sum(got)) != c.sum {
			t.Errorf("Make of %d ids: %d bytes, digest %x", c.count, len(got), sha.Sum(got))
		}
	}
}

// P14.2: bit i is bit i modulo 8, from the lowest on, of byte i / 8.
func TestMakeSetsTheBitsOfItsPlaces(t *testing.T) {
	for place := range 64 {
		// With b = 0xffffffc1 all four places are a, a + 1, a + 2, a + 3 modulo 64.
		id := headed("\x00\x00\x00" + string([]byte{byte(place)}) + "\xff\xff\xff\xc1")
		want := make([]byte, 8)
		for i := range 4 {
			at := (place + i) % 64
			want[at/8] |= 1 << (at % 8)
		}
		if got := bloom.Make([]string{id}); got != string(want) {
			t.Errorf("Make of the place %d: %x, not %x", place, got, want)
		}
	}
}

// P14.2: what hasn't 32 bytes is neither put in nor counted.
func TestMakeLeavesOutWhatIsNoId(t *testing.T) {
	if got := bloom.Make(wrongIds()); got != strings.Repeat("\x00", 8) {
		t.Errorf("Make of no ids: %x", got)
	}
	ids := numberedFrom(0, 6)
	mixed := slices.Concat(wrongIds(), ids[:2], wrongIds(), ids[2:], wrongIds())
	if got := hexOf(bloom.Make(mixed)); got != "a0105b894003a864" {
		t.Errorf("Make of 6 ids among others: %s", got)
	}
}

// P14.2: each id counts, also one that is there already.
func TestMakeOfIdsThatAreTheSame(t *testing.T) {
	for _, c := range [][2]int{{1, 8}, {6, 8}, {7, 16}, {12, 16}, {13, 32}, {205, 512}, {500, 512}} {
		ids := slices.Repeat([]string{headed("")}, c[0])
		want := "\x0f" + strings.Repeat("\x00", c[1]-1)
		if got := bloom.Make(ids); got != want {
			t.Errorf("Make of one id %d times: %x", c[0], got)
		}
	}
}

// P14.2: as many bits as the size for the ids' count.
func TestMakeOfEachCount(t *testing.T) {
	ids := numberedFrom(0, 450)
	for n := range len(ids) + 1 {
		if got := bloom.Make(ids[:n]); got != modelMake(ids[:n]) || 8*len(got) != bloom.Size(n) {
			t.Fatalf("Make of %d ids: %x", n, got)
		}
	}
}

// P14.2: all places must be set.
func TestHasAsksForEachPlace(t *testing.T) {
	for n := range 50 {
		id := numbered(n)
		bits := []byte(bloom.Make([]string{id}))
		checkHas(t, string(bits), id, true)
		for _, place := range bloom.Places(id, 64) {
			bits[place/8] ^= 1 << (place % 8)
			checkHas(t, string(bits), id, false)
			bits[place/8] ^= 1 << (place % 8)
		}
		for i := range 64 {
			bits[i/8] |= 1 << (i % 8)
			checkHas(t, string(bits), id, true)
		}
	}
}

// P14.2: nothing but its places is asked for.
func TestHasAsksForNothingElse(t *testing.T) {
	for n := range 50 {
		id := numbered(n)
		bits := []byte(bloom.Make([]string{id}))
		for i := range bits {
			bits[i] = ^bits[i]
		}
		checkHas(t, string(bits), id, false)
		for _, place := range bloom.Places(id, 64) {
			bits[place/8] |= 1 << (place % 8)
		}
		checkHas(t, string(bits), id, true)
	}
}

// P14.2: bits may have any count of bytes up to 512, a power of two or not.
func TestHasAmongEachCountOfBytes(t *testing.T) {
	r := rand.New(rand.NewSource(141))
	ids := numberedFrom(0, 10)
	for size := range maxBits/8 + 3 {
		bits := make([]byte, size)
		for _, id := range ids {
			checkHas(t, string(bits), id, false)
		}
		for range 3 {
			for i := range bits {
				bits[i] = byte(r.Intn(256) | r.Intn(256) | r.Intn(256))
			}
			for _, id := range ids {
				checkHas(t, string(bits), id, modelHas(string(bits), id))
			}
		}
	}
}

// P14.2: false of what has no places: among no bits, or more than 4096.
func TestHasAmongTooFewOrTooMany(t *testing.T) {
	for _, id := range []string{headed(""), strings.Repeat("\xff", idSize), numbered(0)} {
		checkHas(t, "", id, false)
		checkHas(t, "\xff", id, true)
		checkHas(t, strings.Repeat("\xff", 512), id, true)
		for _, size := range []int{513, 514, 520, 1024, 65536} {
			checkHas(t, strings.Repeat("\xff", size), id, false)
		}
	}
}

// P14.2: false of what has no places: what is no id.
func TestHasOfNoId(t *testing.T) {
	full := strings.Repeat("\xff", 8)
	for _, id := range wrongIds() {
		checkHas(t, full, id, false)
		checkHas(t, bloom.Make([]string{id}), id, false)
		checkHas(t, "", id, false)
	}
}

// P14.2: probably there: an id that wasn't put in may be, if others set its places.
func TestHasOfWhatWasNotPutIn(t *testing.T) {
	ids := []string{headed("\x00\x00\x00\x00"), headed("\x00\x00\x00\x04")}
	bits := bloom.Make(ids)
	for at := range 64 {
		checkHas(t, bits, headed("\x00\x00\x00"+string([]byte{byte(at)})), at <= 4)
	}
}

// P14.3
func TestWhatWasPutInIsThere(t *testing.T) {
	r := rand.New(rand.NewSource(142))
	for range 400 {
		ids := numberedFrom(r.Intn(1000), r.Intn(500))
		bits := bloom.Make(ids)
		for _, id := range ids {
			checkHas(t, bits, id, true)
		}
	}
}

// P14.3: as long as the size is the same.
func TestMoreIdsTakeNothingAway(t *testing.T) {
	r := rand.New(rand.NewSource(143))
	for range 100 {
		ids := numberedFrom(r.Intn(1000), 450)
		before := ""
		for n := range ids {
			bits := bloom.Make(ids[:n])
			if len(bits) == len(before) {
				checkWithin(t, before, bits)
			}
			before = bits
		}
	}
}

func checkWithin(t *testing.T, few, more string) {
	t.Helper()
	for i := range len(few) {
		if few[i]&^more[i] != 0 {
			t.Fatalf("more ids took bits away: %x, then %x", few, more)
		}
	}
}

// P14.3
func TestTheOrderCountsForNothing(t *testing.T) {
	r := rand.New(rand.NewSource(144))
	for range 300 {
		ids := append(numberedFrom(r.Intn(1000), r.Intn(300)), "short", headed("")+"long")
		want := bloom.Make(ids)
		r.Shuffle(len(ids), func(i, j int) { ids[i], ids[j] = ids[j], ids[i] })
		if got := bloom.Make(ids); got != want {
			t.Fatalf("Make of %d ids in another order: %x, not %x", len(ids), got, want)
		}
	}
}

// Rule 4: what is handed in is as it was, its spare room too.
func TestNothingHandedInIsChanged(t *testing.T) {
	ids := make([]string, 0, 20)
	ids = append(ids, numbered(2), "short", numbered(1), numbered(0))
	spare := ids[:cap(ids)]
	for i := len(ids); i < len(spare); i++ {
		spare[i] = "spare"
	}
	want := slices.Clone(spare)
	bits := bloom.Make(ids)
	if !slices.Equal(spare, want) {
		t.Errorf("Make changed its ids: %q", spare)
	}
	id := numbered(1)
	bloom.Has(bits, id)
	bloom.Places(id, 64)
	if id != numbered(1) || bits != bloom.Make(want[:4]) {
		t.Error("Has or Places changed what was handed in")
	}
}

// Rule 4: what is answered is new memory each time.
func TestWhatIsAnsweredIsNew(t *testing.T) {
	id := numbered(0)
	places := bloom.Places(id, 64)
	want := slices.Clone(places)
	clear(places)
	checkPlaces(t, id, 64, want...)
	for _, ids := range [][]string{nil, numberedFrom(0, 3)} {
		first, second := bloom.Make(ids), bloom.Make(ids)
		if unsafe.StringData(first) == unsafe.StringData(second) {
			t.Errorf("Make of %d ids answered the same memory twice", len(ids))
		}
	}
	if short := bloom.Places("short", 64); short != nil && cap(short) > 0 {
		t.Errorf("Places of no id: %d", short)
	}
}

// Rules 4 and 6: bits don't hang on what becomes of the ids later.
func TestNothingHandedInIsKept(t *testing.T) {
	memory := []byte(numbered(0))
	bits := bloom.Make([]string{unsafe.String(&memory[0], len(memory))})
	places := bloom.Places(unsafe.String(&memory[0], len(memory)), 64)
	clear(memory)
	if hexOf(bits) != "0000028140000000" || !slices.Equal(places, []int{38, 31, 24, 17}) {
		t.Errorf("%x, %d", bits, places)
	}
}
