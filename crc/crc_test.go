package crc_test

import (
	"encoding/binary"
	"encoding/hex"
	"hash/crc32"
	"math"
	"math/rand"
	"strings"
	"testing"
	"unsafe"

	"palaver/crc"
)

const maxSealed = 65535

func hexOf(s string) string {
	return hex.EncodeToString([]byte(s))
}

func long(n uint32) string {
	return string(binary.BigEndian.AppendUint32(nil, n))
}

// ramp is bytes that repeat at no power of two.
func ramp(n int) string {
	out := make([]byte, n)
	for i := range out {
		out[i] = byte(i % 251)
	}
	return string(out)
}

func randomText(r *rand.Rand, n int) string {
	out := make([]byte, n)
	r.Read(out)
	return string(out)
}

// turned is a text with some bits of it added to those of a byte.
func turned(s string, at int, bits byte) string {
	out := []byte(s)
	out[at] ^= bits
	return string(out)
}

// slowSum goes word by word as the chapter tells the sum: bit by bit.
func slowSum(s string) uint32 {
	register := uint32(0xffffffff)
	for _, b := range []byte(s) {
		for bit := range 8 {
			register ^= uint32(b>>bit) & 1
			falls := register & 1
			register >>= 1
			register ^= falls * 0xedb88320
		}
	}
	return register ^ 0xffffffff
}

// some are texts with lengths about those that the chapter names.
func some() []string {
	r := rand.New(rand.NewSource(81))
	out := []string{"", "\x00", "\x01", "\x80", "\xff", "a", "xy", "123456789", strings.Repeat("\x00", 8), strings.Repeat("\xff", 8)}
	for _, n := range []int{3, 4, 5, 7, 8, 31, 32, 33, 255, 256, 257, 1000} {
		out = append(out, randomText(r, n))
	}
	return out
}

// P8.1, the chapter's example, and sums of another program.
func TestSumIsThatOfTheStandard(t *testing.T) {
	all := ""
	for b := range 256 {
		all += string([]byte{byte(b)})
	}
	for _, c := range []struct {
		s   string
		sum uint32
	}{
		{"123456789", 0xcbf43926},
		{"", 0},
		{"\x00", 0xd202ef8d},
		{"\x01", 0xa505df1b},
		{"\x80", 0x3fba6cad},
		{"\xff", 0xff000000},
		{"a", 0xe8b7be43},
		{"abc", 0x352441c2},
		{strings.Repeat("\x00", 4), 0x2144df1c},
		{strings.Repeat("\x00", 32), 0x190a55ad},
		{strings.Repeat("\xff", 4), 0xffffffff},
		{"The quick brown fox jumps over the lazy dog", 0x414fa339},
		{all, 0x29058c73},
		{ramp(65535), 0xcf371872},
		{ramp(1 << 20), 0xef0e6054},
	} {
		if got := crc.Sum(c.s); got != c.sum {
			t.Errorf("Sum of %d bytes that begin with %.9q: %08x, not %08x", len(c.s), c.s, got, c.sum)
		}
	}
}

// P8.1
func TestSumOfEachByte(t *testing.T) {
	for b := range 256 {
		s := string([]byte{byte(b)})
		if got := crc.Sum(s); got != slowSum(s) || got != crc32.ChecksumIEEE([]byte(s)) {
			t.Errorf("Sum(%q): %08x", s, got)
		}
	}
}

// P8.1
func TestSumOfManyBytes(t *testing.T) {
	r := rand.New(rand.NewSource(82))
	for n := range 600 {
		s := randomText(r, n)
		if got := crc.Sum(s); got != slowSum(s) || got != crc32.ChecksumIEEE([]byte(s)) {
			t.Fatalf("Sum(%q): %08x", s, got)
		}
	}
	for _, n := range []int{65535, 65536, 1 << 20} {
		s := randomText(r, n)
		if got := crc.Sum(s); got != crc32.ChecksumIEEE([]byte(s)) {
			t.Errorf("Sum of %d bytes: %08x", n, got)
		}
	}
}

// P8.1: of any sum, as each is the sum of some bytes.
func TestMoreOfNoBytesIsTheSum(t *testing.T) {
	r := rand.New(rand.NewSource(83))
	sums := []uint32{0, 1, 0x7fffffff, 0x80000000, math.MaxUint32, 0xcbf43926, 0xedb88320}
	for range 200 {
		sums = append(sums, r.Uint32())
	}
	for _, sum := range sums {
		if got := crc.More(sum, ""); got != sum {
			t.Errorf("More(%08x, nothing): %08x", sum, got)
		}
	}
}

// P8.1
func TestMoreOfPiecesCutAnywhere(t *testing.T) {
	for _, s := range some() {
		for at := range len(s) + 1 {
			if got := crc.More(crc.Sum(s[:at]), s[at:]); got != crc.Sum(s) {
				t.Errorf("More of %q, cut at %d: %08x", s, at, got)
			}
		}
	}
}

// P8.1
func TestMoreOfManyPieces(t *testing.T) {
	r := rand.New(rand.NewSource(84))
	for range 300 {
		s := randomText(r, r.Intn(400))
		sum, rest := crc.Sum(""), s
		for rest != "" {
			n := r.Intn(min(len(rest), 9) + 1)
			sum = crc.More(sum, rest[:n])
			rest = rest[n:]
		}
		if sum != crc32.ChecksumIEEE([]byte(s)) {
			t.Fatalf("More of the pieces of %q: %08x", s, sum)
		}
	}
}

// P8.1: of sums that no bytes here were summed to.
func TestMoreOfAnySum(t *testing.T) {
	r := rand.New(rand.NewSource(85))
	for range 300 {
		sum, s := r.Uint32(), randomText(r, r.Intn(40))
		if got := crc.More(sum, s); got != crc32.Update(sum, crc32.IEEETable, []byte(s)) {
			t.Fatalf("More(%08x, %q): %08x", sum, s, got)
		}
	}
}

// P8.2
func TestSealedLaysLengthAndSumAhead(t *testing.T) {
	for _, c := range []struct{ s, sealed string }{
		{"", "0000000000000000"},
		{"\x00", "00000001d202ef8d00"},
		{"xy", "000000028fe62899" + "7879"},
		{"123456789", "00000009cbf43926313233343536373839"},
	} {
		if got, ok := crc.Sealed(c.s); !ok || hexOf(got) != c.sealed {
			t.Errorf("Sealed(%q): %s, %v", c.s, hexOf(got), ok)
		}
	}
	for _, s := range append(some(), ramp(65534), ramp(maxSealed), strings.Repeat("\x00", maxSealed)) {
		got, ok := crc.Sealed(s)
		if !ok || got != long(uint32(len(s)))+long(crc32.ChecksumIEEE([]byte(s)))+s {
			t.Errorf("Sealed of %d bytes that begin with %.9q: %.20q, %v", len(s), s, got, ok)
		}
	}
}

// P8.2
func TestSealedRefusesMoreThanMayBe(t *testing.T) {
	for _, n := range []int{maxSealed + 1, maxSealed + 2, 2 * (maxSealed + 1), 1 << 20} {
		if got, ok := crc.Sealed(ramp(n)); ok || got != "" {
			t.Errorf("Sealed of %d bytes: %.20q, %v", n, got, ok)
		}
	}
}

func seal(t *testing.T, s string) string {
	t.Helper()
	sealed, ok := crc.Sealed(s)
	if !ok {
		t.Fatalf("Sealed of %d bytes: false", len(s))
	}
	return sealed
}

func checkOpen(t *testing.T, s, want string) {
	t.Helper()
	if got, n, ok := crc.Open(s); !ok || got != want || n != len(want)+8 {
		t.Errorf("Open of %d bytes that begin with %.20q: %.20q, %d, %v", len(s), s, got, n, ok)
	}
}

func checkShut(t *testing.T, s string) {
	t.Helper()
	if got, n, ok := crc.Open(s); ok || got != "" || n != 0 {
		t.Errorf("Open of %d bytes that begin with %.20q: %.20q, %d, %v", len(s), s, got, n, ok)
	}
}

// P8.3
func TestOpenOfWhatWasSealed(t *testing.T) {
	for _, s := range append(some(), ramp(65534), ramp(maxSealed)) {
		sealed := seal(t, s)
		for _, behind := range []string{"", "\x00", "z", sealed, strings.Repeat("\x00", 9), strings.Repeat("\xff", 9)} {
			checkOpen(t, sealed+behind, s)
		}
	}
}

// P8.3: how many bytes it is tells where the next begins.
func TestOpenOneBehindAnother(t *testing.T) {
	rest := ""
	for _, s := range some() {
		rest += seal(t, s)
	}
	for _, s := range some() {
		checkOpen(t, rest, s)
		_, n, _ := crc.Open(rest)
		rest = rest[n:]
	}
	if rest != "" {
		t.Errorf("left: %q", rest)
	}
	checkShut(t, rest)
}

// P8.3
func TestOpenOfWhatIsCutOff(t *testing.T) {
	for _, s := range some() {
		sealed := seal(t, s)
		for n := range len(sealed) {
			checkShut(t, sealed[:n])
		}
	}
	sealed := seal(t, ramp(maxSealed))
	for _, n := range []int{0, 1, 4, 7, 8, 9, len(sealed) / 2, len(sealed) - 1} {
		checkShut(t, sealed[:n])
	}
}

// P8.3: a byte of the length, of the sum or of what was sealed.
func TestOpenOfTurnedBytes(t *testing.T) {
	for _, s := range some() {
		sealed := seal(t, s)
		for at := range sealed {
			for _, bits := range []byte{0x01, 0x10, 0x80, 0xff, 0x5a} {
				checkShut(t, turned(sealed, at, bits))
				checkShut(t, turned(sealed, at, bits)+"z")
			}
		}
	}
}

// P8.3: all that a byte of a short text may turn to.
func TestOpenOfEachTurnedByte(t *testing.T) {
	sealed := seal(t, "123456789")
	for at := range sealed {
		for bits := 1; bits < 256; bits++ {
			checkShut(t, turned(sealed, at, byte(bits)))
			checkShut(t, turned(sealed, at, byte(bits))+ramp(300))
		}
	}
}

// P8.3: with the right sum, and all bytes there.
func TestOpenOfTooGreatALength(t *testing.T) {
	for _, n := range []int{maxSealed + 1, maxSealed + 2, 1 << 17, 1 << 20} {
		s := ramp(n)
		checkShut(t, long(uint32(n))+long(crc32.ChecksumIEEE([]byte(s)))+s)
	}
	for _, n := range []uint32{maxSealed + 1, 1 << 16, 1<<24 + 2, 1 << 31, 1<<31 + 2, math.MaxUint32 - 1, math.MaxUint32} {
		checkShut(t, long(n)+long(crc.Sum("xy"))+"xy")
		checkShut(t, long(n)+long(crc.Sum(""))+ramp(maxSealed))
	}
}

// P8.3
func TestOpenOfAnyBytes(t *testing.T) {
	r := rand.New(rand.NewSource(86))
	for range 2000 {
		s := randomText(r, r.Intn(60))
		checkShut(t, s)
		checkShut(t, long(uint32(r.Intn(60)))+long(r.Uint32())+s)
	}
}

// turnBits adds a pattern of 32 bits to a text, from its bit at a place on, each byte's lowest bit first.
func turnBits(s string, at int, pattern uint32) string {
	out := []byte(s)
	for i := range 32 {
		if place := at + i; pattern>>i&1 == 1 {
			out[place/8] ^= 1 << (place % 8)
		}
	}
	return string(out)
}

func checkOther(t *testing.T, s string, at int, pattern uint32) {
	t.Helper()
	if other := turnBits(s, at, pattern); crc.Sum(other) == crc.Sum(s) {
		t.Fatalf("%q and %q have one sum", s, other)
	}
}

// P8.4: one bit, two, all within some, and any.
func TestTurnedBitsHaveAnotherSum(t *testing.T) {
	r := rand.New(rand.NewSource(87))
	for _, s := range []string{strings.Repeat("\x00", 9), strings.Repeat("\xff", 9), "123456789", randomText(r, 40)} {
		for at := range 8*len(s) - 31 {
			for i := range 32 {
				checkOther(t, s, at, 1<<i)
				checkOther(t, s, at, 1<<31|1<<i)
				checkOther(t, s, at, math.MaxUint32>>i)
			}
			checkOther(t, s, at, 0xedb88320)
			checkOther(t, s, at, 0xdb710641)
			checkOther(t, s, at, 0xf6dc4190)
			for range 40 {
				checkOther(t, s, at, r.Uint32()|1)
			}
		}
	}
}

// P8.4: of all places in many bytes.
func TestTurnedBitsOfManyBytes(t *testing.T) {
	r := rand.New(rand.NewSource(88))
	s := randomText(r, 65535)
	for range 40 {
		checkOther(t, s, r.Intn(8*len(s)-31), r.Uint32()|1)
	}
	checkOther(t, s, 0, math.MaxUint32)
	checkOther(t, s, 8*len(s)-32, math.MaxUint32)
}

// Rule 4: an answer is new memory.
func TestAnswersShareNoMemory(t *testing.T) {
	s := strings.Repeat("text", 9)
	sealed := seal(t, s)
	handed := []byte(sealed + "behind")
	opened, _, ok := crc.Open(unsafe.String(&handed[0], len(handed)))
	clear(handed)
	if !ok || opened != s {
		t.Errorf("Open: %q, %v", opened, ok)
	}
	bytes := []byte(s)
	sealed, ok = crc.Sealed(unsafe.String(&bytes[0], len(bytes)))
	clear(bytes)
	checkOpen(t, sealed, s)
	if !ok {
		t.Error("Sealed: false")
	}
}

// Rule 6: the same again, whatever was asked between.
func TestAnswersHangOnArgumentsAlone(t *testing.T) {
	for range 3 {
		for _, s := range some() {
			crc.Open("spoilt" + s)
			checkOpen(t, seal(t, s), s)
			if crc.Sum(s) != slowSum(s) {
				t.Errorf("Sum(%q) is another one", s)
			}
		}
	}
}
