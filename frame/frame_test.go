package frame_test

import (
	"encoding/hex"
	"math"
	"math/rand"
	"slices"
	"strings"
	"testing"
	"unsafe"

	"palaver/api"
	"palaver/frame"
)

var kinds = []int{api.Hello, api.Filter, api.Want, api.Give, api.Relay}

var kindsWithIds = []int{api.Hello, api.Filter, api.Want}

var noKinds = []int{0, 6, -1, -5, 255, 256, 257, 261, 1 << 32, 1<<32 + 1, math.MinInt, math.MaxInt}

func hexOf(s string) string {
	return hex.EncodeToString([]byte(s))
}

func byteOf(n int) string {
	return string([]byte{byte(n)})
}

func textOf(s string) string {
	return string([]byte{byte(len(s) >> 8), byte(len(s))}) + s
}

// idOf is 32 times a byte: so ids of rising bytes rise.
func idOf(b byte) string {
	return strings.Repeat(string([]byte{b}), 32)
}

func risingIds(n int) []string {
	var out []string
	for i := range n {
		out = append(out, strings.Repeat("\x00", 30)+string([]byte{byte(i >> 8), byte(i)}))
	}
	return out
}

func texts(n, size int) []string {
	return slices.Repeat([]string{strings.Repeat("\x01", size)}, n)
}

// bytesOf is a frame's bytes as the chapter tells it, whether it is right or not.
func bytesOf(f api.Frame) string {
	laid := ""
	for _, text := range f.Texts {
		laid += textOf(text)
	}
	switch f.Kind {
	case api.Relay:
		return byteOf(f.Kind) + byteOf(f.To) + laid
	case api.Give:
		return byteOf(f.Kind) + byteOf(len(f.Texts)) + laid
	case api.Filter:
		return byteOf(f.Kind) + byteOf(len(f.Ids)) + strings.Join(f.Ids, "") + textOf(f.Bits)
	}
	return byteOf(f.Kind) + byteOf(len(f.Ids)) + strings.Join(f.Ids, "")
}

// some is a right frame of a kind, on which the tests lay what they try.
func some(kind int) api.Frame {
	switch kind {
	case api.Filter:
		return api.Frame{Kind: kind, Ids: risingIds(2), Bits: "bits"}
	case api.Give:
		return api.Frame{Kind: kind, Texts: []string{"one", "two"}}
	case api.Relay:
		return api.Frame{Kind: kind, To: 3, Texts: []string{"\x01\x00"}}
	}
	return api.Frame{Kind: kind, Ids: risingIds(2)}
}

func with(f api.Frame, change func(f *api.Frame)) api.Frame {
	change(&f)
	return f
}

func alike(a, b api.Frame) bool {
	return a.Kind == b.Kind && a.To == b.To && slices.Equal(a.Ids, b.Ids) && a.Bits == b.Bits && slices.Equal(a.Texts, b.Texts)
}

// checkRight holds all calls against a frame that is right and short enough.
func checkRight(t *testing.T, f api.Frame, what string) {
	t.Helper()
	if !frame.Right(f) {
		t.Errorf("%s: isn't right", what)
	}
	if s, errno := frame.Encode(f); s != bytesOf(f) || errno != api.OK {
		t.Errorf("%s: %d bytes, %d", what, len(s), errno)
	}
	if d, errno := frame.Decode(bytesOf(f)); !alike(d, f) || errno != api.OK {
		t.Errorf("%s: decoded as %#v, %d", what, d, errno)
	}
}

// checkLong holds all calls against a frame that is right, and has too many bytes.
func checkLong(t *testing.T, f api.Frame, what string) {
	t.Helper()
	if !frame.Right(f) {
		t.Errorf("%s: isn't right", what)
	}
	if s, errno := frame.Encode(f); s != "" || errno != api.ErrLong {
		t.Errorf("%s: %d bytes, %d", what, len(s), errno)
	}
	checkUndecoded(t, bytesOf(f), api.ErrLong, what)
}

func checkWrong(t *testing.T, f api.Frame, what string) {
	t.Helper()
	if frame.Right(f) {
		t.Errorf("%s: is right", what)
	}
	if s, errno := frame.Encode(f); s != "" || errno != api.ErrForm {
		t.Errorf("%s: %d bytes, %d", what, len(s), errno)
	}
}

// checkWrongBytes is for frames whose bytes tell all of them: so these are none either.
func checkWrongBytes(t *testing.T, f api.Frame, what string) {
	t.Helper()
	checkWrong(t, f, what)
	checkUndecoded(t, bytesOf(f), api.ErrForm, what)
}

func checkUndecoded(t *testing.T, s string, want api.Errno, what string) {
	t.Helper()
	if d, errno := frame.Decode(s); !alike(d, api.Frame{}) || errno != want {
		t.Errorf("%s: decoded as %#v, %d, want %d", what, d, errno, want)
	}
}

// P7.1, P7.2: the chapter's examples, and others.
func TestKnown(t *testing.T) {
	cases := []struct {
		f    api.Frame
		want string
	}{
		{api.Frame{Kind: api.Hello}, "0100"},
		{api.Frame{Kind: api.Relay, To: 3, Texts: []string{"\x01\x00"}}, "050300020100"},
		{api.Frame{Kind: api.Hello, Ids: []string{idOf('a')}}, "0101" + hexOf(idOf('a'))},
		{api.Frame{Kind: api.Filter, Bits: "\x80"}, "0200" + "000180"},
		{api.Frame{Kind: api.Filter, Ids: []string{idOf(0), idOf(255)}, Bits: "ab"}, "0202" + hexOf(idOf(0)+idOf(255)) + "00026162"},
		{api.Frame{Kind: api.Want, Ids: []string{idOf('a'), idOf('b')}}, "0302" + hexOf(idOf('a')+idOf('b'))},
		{api.Frame{Kind: api.Give, Texts: []string{"abc"}}, "0401" + "0003616263"},
		{api.Frame{Kind: api.Give, Texts: []string{"b", "a", "a"}}, "0403" + "000162" + "000161" + "000161"},
		{api.Frame{Kind: api.Relay, To: 255, Texts: []string{"\x00"}}, "05ff" + "000100"},
	}
	for _, c := range cases {
		if s, errno := frame.Encode(c.f); hexOf(s) != c.want || errno != api.OK {
			t.Errorf("%#v: %s, %d, want %s", c.f, hexOf(s), errno, c.want)
		}
		checkRight(t, c.f, "known")
	}
}

// P7.1, P7.2
func TestKinds(t *testing.T) {
	for _, kind := range kinds {
		checkRight(t, some(kind), "a kind")
	}
	for _, kind := range noKinds {
		checkWrong(t, api.Frame{Kind: kind}, "no kind")
		for _, like := range kinds {
			checkWrong(t, with(some(like), func(f *api.Frame) { f.Kind = kind }), "no kind")
			if kind >= 0 && kind <= 255 {
				checkUndecoded(t, byteOf(kind)+bytesOf(some(like))[1:], api.ErrForm, "no kind")
			}
		}
	}
}

// P7.1, P7.2
func TestHowManyIds(t *testing.T) {
	for _, kind := range kindsWithIds {
		for _, n := range []int{0, 1, 2, 63, 64, 65, 128, 255} {
			f := with(some(kind), func(f *api.Frame) { f.Ids = risingIds(n) })
			if n > 64 || n == 0 && kind == api.Want {
				checkWrongBytes(t, f, "too few or too many ids")
				continue
			}
			checkRight(t, f, "as many ids")
		}
		for _, n := range []int{256, 257, 320, 1000} {
			checkWrong(t, with(some(kind), func(f *api.Frame) { f.Ids = risingIds(n) }), "more ids than a byte counts")
		}
		empty := with(some(kind), func(f *api.Frame) { f.Ids = []string{} })
		if frame.Right(empty) != (kind != api.Want) {
			t.Errorf("kind %d: an empty list isn't as no list", kind)
		}
	}
}

// P7.1, P7.2
func TestIdsInOrder(t *testing.T) {
	least := strings.Repeat("\x00", 31)
	right := [][]string{
		{idOf(1), idOf(2)},
		{idOf(0x7f), idOf(0x80), idOf(0xff)},
		{least + "\x00", least + "\x01"},
		{idOf(0), "\x01" + least},
	}
	wrong := [][]string{
		{idOf(1), idOf(1)},
		{idOf(2), idOf(1)},
		{idOf(0x80), idOf(0x7f)},
		{idOf(1), idOf(3), idOf(2)},
		{idOf(1), idOf(2), idOf(2)},
		{idOf(2), idOf(2), idOf(3)},
		{least + "\x01", least + "\x00"},
		append(risingIds(63), idOf(0)),
	}
	for _, kind := range kindsWithIds {
		for _, ids := range right {
			checkRight(t, with(some(kind), func(f *api.Frame) { f.Ids = ids }), "ids that rise")
		}
		for _, ids := range wrong {
			checkWrongBytes(t, with(some(kind), func(f *api.Frame) { f.Ids = ids }), "ids that don't rise")
		}
	}
}

// P7.1, P7.2
func TestIdsOfOtherLengths(t *testing.T) {
	for _, kind := range kindsWithIds {
		for _, size := range []int{0, 1, 31, 33, 64} {
			bad := strings.Repeat("k", size)
			for _, ids := range [][]string{{bad}, {bad, idOf('z')}, {idOf('a'), bad}, {idOf('a'), bad, idOf('z')}} {
				checkWrongBytes(t, with(some(kind), func(f *api.Frame) { f.Ids = ids }), "an id of another length")
			}
		}
	}
}

// P7.1, P7.2
func TestBits(t *testing.T) {
	for _, ids := range [][]string{nil, risingIds(1), risingIds(64)} {
		for _, size := range []int{0, 1, 2, 511, 512, 513, 1024, 4096} {
			f := api.Frame{Kind: api.Filter, Ids: ids, Bits: strings.Repeat("\xff", size)}
			if size >= 1 && size <= 512 {
				checkRight(t, f, "as many bits")
				continue
			}
			checkWrongBytes(t, f, "too few or too many bits")
		}
		checkWrong(t, api.Frame{Kind: api.Filter, Ids: ids, Bits: strings.Repeat("b", 1<<16+1)}, "more bits than a text has")
	}
}

// P7.1, P7.2
func TestHowManyTexts(t *testing.T) {
	for _, n := range []int{0, 1, 2, 15, 16, 17, 255} {
		f := api.Frame{Kind: api.Give, Texts: texts(n, 3)}
		if n >= 1 && n <= 16 {
			checkRight(t, f, "as many texts")
		} else {
			checkWrongBytes(t, f, "too few or too many texts")
		}
	}
	for _, n := range []int{256, 257, 1000} {
		checkWrong(t, api.Frame{Kind: api.Give, Texts: texts(n, 3)}, "more texts than a byte counts")
	}
	checkWrong(t, api.Frame{Kind: api.Give, Texts: []string{}}, "an empty list of texts")
}

// P7.1: a text of 65535 bytes may be, and makes a frame that is too long; one of 65536 may not.
func TestTextsOfAnyLength(t *testing.T) {
	for _, kind := range []int{api.Give, api.Relay} {
		one := func(size int) api.Frame { return api.Frame{Kind: kind, Texts: texts(1, size)} }
		checkWrongBytes(t, one(0), "an empty text")
		checkRight(t, one(1), "a text of one byte")
		checkLong(t, one(65535), "the longest text")
		for _, size := range []int{65536, 65537, 1 << 17} {
			checkWrong(t, one(size), "a text that is too long")
		}
	}
	for _, size := range []int{0, 65536} {
		for place := range 3 {
			f := api.Frame{Kind: api.Give, Texts: texts(3, 2)}
			f.Texts[place] = strings.Repeat("t", size)
			checkWrong(t, f, "a text among others that may not be")
		}
	}
	checkUndecoded(t, "\x04\x02\x00\x01a\x00\x00", api.ErrForm, "an empty text behind another one")
}

// P7.1, P7.2
func TestLongestFrames(t *testing.T) {
	for _, kind := range []int{api.Give, api.Relay} {
		for size := 65528; size <= 65535; size++ {
			f := api.Frame{Kind: kind, Texts: texts(1, size)}
			if len(bytesOf(f)) <= 65535 {
				checkRight(t, f, "a long frame")
				continue
			}
			checkLong(t, f, "a frame that is too long")
		}
	}
	for size := 65480; size <= 65520; size++ {
		f := api.Frame{Kind: api.Give, Texts: append(texts(15, 1), strings.Repeat("t", size))}
		if len(bytesOf(f)) <= 65535 {
			checkRight(t, f, "a long frame of many texts")
			continue
		}
		checkLong(t, f, "a frame of many texts that is too long")
	}
	checkLong(t, api.Frame{Kind: api.Give, Texts: texts(16, 65535)}, "the longest frame")
	checkWrong(t, api.Frame{Kind: api.Give, Texts: texts(17, 65535)}, "wrong and too long")
}

// P7.2: ErrLong comes first, whatever the bytes are.
func TestBytesTooLong(t *testing.T) {
	for _, b := range []string{"\x00", "\x01", "\x04", "\x05", "\xff"} {
		checkUndecoded(t, strings.Repeat(b, 65535), api.ErrForm, "as many bytes as may be")
		for _, size := range []int{65536, 65537, 1 << 20} {
			checkUndecoded(t, strings.Repeat(b, size), api.ErrLong, "too many bytes")
		}
	}
	for _, kind := range kinds {
		s := bytesOf(some(kind))
		checkUndecoded(t, s+strings.Repeat("\x00", 65535-len(s)), api.ErrForm, "a right frame and more")
		checkUndecoded(t, s+strings.Repeat("\x00", 65536-len(s)), api.ErrLong, "a right frame and too much")
	}
}

// P7.1, P7.2
func TestWhomARelayIsFor(t *testing.T) {
	for _, to := range []int{0, 1, 4, 5, 127, 128, 254, 255} {
		checkRight(t, with(some(api.Relay), func(f *api.Frame) { f.To = to }), "a node's number")
	}
	for _, to := range []int{-1, 256, -256, 257, 1 << 32, 1<<32 + 1, math.MinInt, math.MaxInt} {
		checkWrong(t, with(some(api.Relay), func(f *api.Frame) { f.To = to }), "no node's number")
	}
}

// P7.1, P7.2
func TestWhatARelayCarries(t *testing.T) {
	for b := range 256 {
		for _, more := range []string{"", "\x00", "\x05"} {
			f := with(some(api.Relay), func(f *api.Frame) { f.Texts = []string{byteOf(b) + more} })
			if b == 5 {
				checkWrongBytes(t, f, "a Relay of a Relay")
				continue
			}
			checkRight(t, f, "a Relay of any other bytes")
		}
	}
	for _, n := range []int{0, 2, 3, 16, 17} {
		checkWrongBytes(t, api.Frame{Kind: api.Relay, Texts: texts(n, 2)}, "a Relay of no text or of more than one")
	}
	checkWrongBytes(t, api.Frame{Kind: api.Relay, Texts: []string{"a", "\x05"}}, "a Relay of two texts")
	checkRight(t, api.Frame{Kind: api.Give, Texts: []string{"\x05", "\x05a"}}, "a Give of texts that begin as a Relay")
}

// P7.1: what a kind doesn't have is empty, or 0.
func TestFieldsOfOtherKinds(t *testing.T) {
	for _, kind := range kinds {
		withIds := slices.Contains(kindsWithIds, kind)
		for _, to := range []int{1, 3, 255, -1, 256, math.MinInt} {
			if kind != api.Relay {
				checkWrong(t, with(some(kind), func(f *api.Frame) { f.To = to }), "whom it is for")
			}
		}
		if !withIds {
			for _, ids := range [][]string{{""}, {"x"}, risingIds(1), risingIds(65)} {
				checkWrong(t, with(some(kind), func(f *api.Frame) { f.Ids = ids }), "ids")
			}
		}
		if withIds {
			for _, more := range [][]string{{""}, {"x"}, texts(16, 2), texts(17, 2)} {
				checkWrong(t, with(some(kind), func(f *api.Frame) { f.Texts = more }), "texts")
			}
		}
		if kind != api.Filter {
			for _, bits := range []string{"\x00", "b", strings.Repeat("b", 512), strings.Repeat("b", 513)} {
				checkWrong(t, with(some(kind), func(f *api.Frame) { f.Bits = bits }), "bits")
			}
		}
		none := with(some(kind), func(f *api.Frame) {
			f.Ids, f.Texts = append([]string{}, f.Ids...), append([]string{}, f.Texts...)
		})
		checkRight(t, none, "lists that are empty, and not nil")
	}
}

// P7.2, P7.3: cut off anywhere it is none, nor with something behind it.
func TestBytesCutOffOrLengthened(t *testing.T) {
	frames := []api.Frame{{Kind: api.Hello}, {Kind: api.Filter, Bits: "b"}, {Kind: api.Want, Ids: risingIds(3)}, {Kind: api.Give, Texts: texts(16, 1)}}
	for _, kind := range kinds {
		frames = append(frames, some(kind))
	}
	for _, f := range frames {
		s := bytesOf(f)
		for i := range len(s) {
			checkUndecoded(t, s[:i], api.ErrForm, "cut off")
		}
		for _, more := range []string{"\x00", "\x00\x00", "x", "\x00\x01a", idOf(255), s} {
			checkUndecoded(t, s+more, api.ErrForm, "with something behind it")
		}
	}
}

// P7.3: whatever bytes are decoded are encoded as they were.
func TestTurnedBytes(t *testing.T) {
	random := rand.New(rand.NewSource(7))
	taken, refused := 0, 0
	for range 30000 {
		b := []byte(bytesOf(some(kinds[random.Intn(len(kinds))])))
		for range 1 + random.Intn(3) {
			b[random.Intn(len(b))] ^= 1 << random.Intn(8)
		}
		f, errno := frame.Decode(string(b))
		if errno != api.OK {
			checkUndecoded(t, string(b), api.ErrForm, "turned")
			refused++
			continue
		}
		taken++
		if s, errno := frame.Encode(f); s != string(b) || errno != api.OK || !frame.Right(f) {
			t.Errorf("%s: decoded, and encoded as %s, %d", hexOf(string(b)), hexOf(s), errno)
		}
	}
	if taken == 0 || refused == 0 {
		t.Errorf("%d taken, %d refused: nothing was tried", taken, refused)
	}
}

// P7.3
func TestAnyBytes(t *testing.T) {
	random := rand.New(rand.NewSource(8))
	for range 20000 {
		b := make([]byte, random.Intn(12))
		random.Read(b)
		if len(b) > 1 {
			b[0], b[1] = b[0]%7, b[1]%4
		}
		f, errno := frame.Decode(string(b))
		if errno == api.OK && bytesOf(f) != string(b) || errno != api.OK && (errno != api.ErrForm || !alike(f, api.Frame{})) {
			t.Errorf("%s: %#v, %d", hexOf(string(b)), f, errno)
		}
	}
}

// P7.3
func TestEncodedIsDecoded(t *testing.T) {
	random := rand.New(rand.NewSource(9))
	any := func(least, most int) string {
		b := make([]byte, least+random.Intn(most-least+1))
		random.Read(b)
		return string(b)
	}
	for range 2000 {
		f := some(kinds[random.Intn(len(kinds))])
		if len(f.Ids) > 0 {
			f.Ids = risingIds(1 + random.Intn(64))
		}
		for i := range f.Texts {
			f.Texts[i] = any(1, 3000)
		}
		switch f.Kind {
		case api.Filter:
			f.Bits = any(1, 512)
		case api.Relay:
			f.To = random.Intn(256)
			f.Texts[0] = byteOf(random.Intn(5)) + f.Texts[0]
		}
		checkRight(t, f, "any frame")
	}
}

// inside tells whether a text lies in the memory of another.
func inside(text, whole string) bool {
	from, at := uintptr(unsafe.Pointer(unsafe.StringData(whole))), uintptr(unsafe.Pointer(unsafe.StringData(text)))
	return at >= from && at < from+uintptr(len(whole))
}

// DOC.md's rule 4: an answer that its asker spoils is answered as it was.
func TestAnswersAreNewMemory(t *testing.T) {
	for _, kind := range kinds {
		s := bytesOf(some(kind))
		first, _ := frame.Decode(s)
		for _, text := range slices.Concat(first.Ids, first.Texts, []string{first.Bits}) {
			if text != "" && inside(text, s) {
				t.Errorf("kind %d: %q is the memory that was handed in", kind, text)
			}
		}
		for _, list := range [][]string{first.Ids, first.Texts} {
			for i := range list {
				list[i] = "spoilt"
			}
			_ = append(list, "spoilt")
		}
		if again, errno := frame.Decode(s); !alike(again, some(kind)) || errno != api.OK {
			t.Errorf("kind %d: decoded again: %#v, %d", kind, again, errno)
		}
	}
}

// DOC.md's rule 4: what is handed in is not changed, its spare room neither.
func TestHandedInIsLeft(t *testing.T) {
	for _, kind := range kinds {
		f := some(kind)
		ids, texts := append(slices.Clone(f.Ids), "spare"), append(slices.Clone(f.Texts), "room")
		f.Ids, f.Texts = ids[:len(ids)-1], texts[:len(texts)-1]
		wantIds, wantTexts := slices.Clone(ids), slices.Clone(texts)
		frame.Right(f)
		s, _ := frame.Encode(f)
		if !slices.Equal(ids, wantIds) || !slices.Equal(texts, wantTexts) || s != bytesOf(some(kind)) {
			t.Errorf("kind %d: %q, %q", kind, ids, texts)
		}
	}
}
