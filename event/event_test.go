package event_test

import (
	"encoding/hex"
	"math"
	"math/rand"
	"reflect"
	"slices"
	"strings"
	"testing"
	"unsafe"

	"palaver/api"
	"palaver/event"
	"palaver/sha"
)

var kinds = []int{api.Create, api.Post, api.Topic, api.Add, api.Remove}

var noKinds = []int{0, 6, -1, -5, 255, 256, 257, 258, 261, 1 << 32, 1<<32 + 1, math.MinInt, math.MaxInt}

func hexOf(s string) string {
	return hex.EncodeToString([]byte(s))
}

func short(n int) string {
	return string([]byte{byte(n >> 8), byte(n)})
}

func textOf(s string) string {
	return short(len(s)) + s
}

// idOf is 32 times a byte: so ids of rising bytes rise.
func idOf(b byte) string {
	return strings.Repeat(string([]byte{b}), 32)
}

func risingIds(n int) []string {
	var out []string
	for i := range n {
		out = append(out, idOf(byte(i*31)))
	}
	return out
}

// contentOf is an event's content as the chapter tells it, whether the event is right or not.
func contentOf(e api.Event) string {
	return string([]byte{byte(e.Kind)}) + textOf(e.Author) + string([]byte{byte(len(e.Parents))}) + strings.Join(e.Parents, "") + textOf(e.Body)
}

func bytesOf(e api.Event) string {
	return contentOf(e) + textOf(e.Sig)
}

// some is a right event of a kind, on which the tests lay what they try.
func some(kind int) api.Event {
	e := api.Event{Kind: kind, Author: idOf('a'), Body: "body", Sig: "sig"}
	if kind != api.Create {
		e.Parents = []string{idOf('p')}
	}
	if kind == api.Add || kind == api.Remove {
		e.Body = idOf('m')
	}
	return e
}

func with(e api.Event, change func(e *api.Event)) api.Event {
	change(&e)
	return e
}

func alike(a, b api.Event) bool {
	return a.Kind == b.Kind && a.Author == b.Author && slices.Equal(a.Parents, b.Parents) && a.Body == b.Body && a.Sig == b.Sig
}

func isZero(e api.Event) bool {
	return alike(e, api.Event{})
}

// checkRight holds all calls against an event that is right.
func checkRight(t *testing.T, e api.Event, what string) {
	t.Helper()
	if !event.Right(e) {
		t.Errorf("%s: isn't right", what)
	}
	if s, errno := event.Content(e); s != contentOf(e) || errno != api.OK {
		t.Errorf("%s: its content %s, %d", what, hexOf(s), errno)
	}
	if s, errno := event.Encode(e); s != bytesOf(e) || errno != api.OK {
		t.Errorf("%s: %d bytes, %d", what, len(s), errno)
	}
	if d, errno := event.Decode(bytesOf(e)); !alike(d, e) || errno != api.OK {
		t.Errorf("%s: decoded as %#v, %d", what, d, errno)
	}
	if errno := event.Check(e); errno != api.ErrSign {
		t.Errorf("%s: Check %d", what, errno)
	}
}

// checkWrong holds all calls against an event that isn't right, whatever its Sig is.
func checkWrong(t *testing.T, e api.Event, what string) {
	t.Helper()
	if s, errno := event.Content(e); s != "" || errno != api.ErrForm {
		t.Errorf("%s: its content %s, %d", what, hexOf(s), errno)
	}
	checkNoBytes(t, e, what)
}

// checkNoBytes leaves out the content, which an event has whose Sig alone isn't right.
func checkNoBytes(t *testing.T, e api.Event, what string) {
	t.Helper()
	if event.Right(e) {
		t.Errorf("%s: is right", what)
	}
	if s, errno := event.Encode(e); s != "" || errno != api.ErrForm {
		t.Errorf("%s: %d bytes, %d", what, len(s), errno)
	}
	checkUndecoded(t, bytesOf(e), what)
	if errno := event.Check(e); errno != api.ErrForm {
		t.Errorf("%s: Check %d", what, errno)
	}
}

func checkUndecoded(t *testing.T, s, what string) {
	t.Helper()
	if d, errno := event.Decode(s); !isZero(d) || errno != api.ErrForm {
		t.Errorf("%s: decoded as %#v, %d", what, d, errno)
	}
}

// P6.1: the chapter's example, and others.
func TestEncodeKnown(t *testing.T) {
	a := idOf('a')
	cases := []struct {
		e    api.Event
		want string
	}{
		{api.Event{Kind: api.Create, Author: a, Body: "r"}, "010020" + hexOf(a) + "00" + "000172" + "0000"},
		{api.Event{Kind: api.Create, Author: a}, "010020" + hexOf(a) + "00" + "0000" + "0000"},
		{api.Event{Kind: api.Post, Author: a, Parents: []string{idOf('p')}, Sig: "sig"}, "020020" + hexOf(a) + "01" + hexOf(idOf('p')) + "0000" + "0003736967"},
		{api.Event{Kind: api.Topic, Author: a, Parents: []string{idOf(0), idOf(255)}, Body: "\x00"}, "030020" + hexOf(a) + "02" + hexOf(idOf(0)+idOf(255)) + "000100" + "0000"},
		{api.Event{Kind: api.Add, Author: a, Parents: []string{idOf('p')}, Body: idOf('m')}, "040020" + hexOf(a) + "01" + hexOf(idOf('p')) + "0020" + hexOf(idOf('m')) + "0000"},
		{api.Event{Kind: api.Remove, Author: a, Parents: []string{idOf('p')}, Body: idOf('m'), Sig: "\xff"}, "050020" + hexOf(a) + "01" + hexOf(idOf('p')) + "0020" + hexOf(idOf('m')) + "0001ff"},
	}
	for _, c := range cases {
		if s, errno := event.Encode(c.e); hexOf(s) != c.want || errno != api.OK {
			t.Errorf("%#v: %s, %d, want %s", c.e, hexOf(s), errno, c.want)
		}
		checkRight(t, c.e, "known")
	}
}

// P6.1
func TestIdKnown(t *testing.T) {
	cases := []struct{ s, want string }{
		{"", "e16ab60aa1eeb7074ca590e8a95bc4ce6264aa74f4f79359e580ede60b892bbe"},
		{"a", "423b307a753adfc25d281a0eab51789fa1679363601d8633f17ddf206037c5c2"},
		{strings.Repeat("\x00", 100), "b543cd577a1604821c3eacba9f2f6a45ba481d70e62f7ba555167469e5b977a2"},
		{strings.Repeat("long", 20000), "0c1bdefabfc4797ddda8f48cc9f6736c6fb4ed271fe1ce0aa53cac2da11cf5f5"},
		{bytesOf(api.Event{Kind: api.Create, Author: idOf('a'), Body: "r"}), "fa5339edb15cd9b78f65c025381a35a7ea2ee166305edfbc89f4af611902f248"},
		{bytesOf(api.Event{Kind: api.Post, Author: idOf('a'), Parents: []string{idOf('p')}, Sig: "sig"}), "c2173bdfde2a6878d3319cadc1ad90422fa1449224d6a555692b67192a4871a9"},
		{bytesOf(api.Event{Kind: api.Remove, Author: idOf('a'), Parents: []string{idOf('a'), idOf('b')}, Body: idOf('m'), Sig: strings.Repeat("\x00", 65535)}), "0d1f3ae9ca1ebf8d6434906d789c5b298e19c80d4fd65c78227e9f4821c09bec"},
	}
	for _, c := range cases {
		if got := event.Id(c.s); hexOf(got) != c.want || got != sha.Tag(7, c.s) {
			t.Errorf("%d bytes: %s, want %s", len(c.s), hexOf(got), c.want)
		}
	}
}

// P6.1
func TestKinds(t *testing.T) {
	for _, kind := range kinds {
		checkRight(t, some(kind), "a kind")
	}
	for _, kind := range noKinds {
		for _, like := range kinds {
			checkKindAlone(t, with(some(like), func(e *api.Event) { e.Kind = kind }))
		}
	}
}

// checkKindAlone decodes only kinds that a byte can say, as the others would be laid as one of these.
func checkKindAlone(t *testing.T, e api.Event) {
	t.Helper()
	if s, errno := event.Content(e); s != "" || errno != api.ErrForm || event.Right(e) {
		t.Errorf("kind %d: its content %s, %d", e.Kind, hexOf(s), errno)
	}
	if s, errno := event.Encode(e); s != "" || errno != api.ErrForm {
		t.Errorf("kind %d: %s, %d", e.Kind, hexOf(s), errno)
	}
	if errno := event.Check(e); errno != api.ErrForm {
		t.Errorf("kind %d: Check %d", e.Kind, errno)
	}
	if e.Kind >= 0 && e.Kind <= 255 {
		checkUndecoded(t, bytesOf(e), "no kind")
	}
}

// P6.1
func TestAuthors(t *testing.T) {
	for _, kind := range kinds {
		for _, size := range []int{0, 1, 31, 32, 33, 64, 65535} {
			e := with(some(kind), func(e *api.Event) { e.Author = strings.Repeat("\xfe", size) })
			if size == 32 {
				checkRight(t, e, "an author of 32 bytes")
				continue
			}
			checkWrong(t, e, "an author of another length")
		}
	}
}

// P6.1
func TestHowManyParents(t *testing.T) {
	for _, kind := range kinds {
		for n := range 10 {
			e := with(some(kind), func(e *api.Event) { e.Parents = risingIds(n) })
			if n <= 8 && (kind == api.Create) == (n == 0) {
				checkRight(t, e, "as many parents")
				continue
			}
			checkWrong(t, e, "too few or too many parents")
		}
		empty := with(some(kind), func(e *api.Event) { e.Parents = []string{} })
		if event.Right(empty) != (kind == api.Create) {
			t.Errorf("kind %d: an empty list isn't as no list", kind)
		}
	}
}

// P6.1: more than a byte could count.
func TestFarTooManyParents(t *testing.T) {
	var ids []string
	for i := range 1 << 10 {
		ids = append(ids, strings.Repeat("\x00", 30)+short(i))
	}
	for _, kind := range kinds {
		for _, n := range []int{16, 255, 256, 257, 264, 1 << 10} {
			e := with(some(kind), func(e *api.Event) { e.Parents = ids[:n] })
			if s, errno := event.Encode(e); s != "" || errno != api.ErrForm || event.Right(e) {
				t.Errorf("%d parents: %d bytes, %d", n, len(s), errno)
			}
			if n <= 255 {
				checkUndecoded(t, bytesOf(e), "too many parents")
			}
		}
	}
}

// P6.1
func TestParentsInOrder(t *testing.T) {
	least := strings.Repeat("\x00", 31)
	right := [][]string{
		{idOf(1), idOf(2)},
		{idOf(0x7f), idOf(0x80), idOf(0xff)},
		{least + "\x00", least + "\x01"},
		{idOf(0), "\x01" + least},
	}
	wrong := [][]string{
		{idOf(1), idOf(1)},
		{idOf(2), idOf(1)},
		{idOf(0x80), idOf(0x7f)},
		{idOf(1), idOf(3), idOf(2)},
		{idOf(1), idOf(2), idOf(2)},
		{idOf(2), idOf(2), idOf(3)},
		{idOf(2), idOf(3), idOf(1)},
		{least + "\x01", least + "\x00"},
		slices.Concat(risingIds(7), []string{idOf(0)}),
	}
	for _, kind := range kinds[1:] {
		for _, parents := range right {
			checkRight(t, with(some(kind), func(e *api.Event) { e.Parents = parents }), "parents that rise")
		}
		for _, parents := range wrong {
			checkWrong(t, with(some(kind), func(e *api.Event) { e.Parents = parents }), "parents that don't rise")
		}
	}
}

// P6.1
func TestParentsOfOtherLengths(t *testing.T) {
	for _, kind := range kinds[1:] {
		for _, size := range []int{0, 1, 31, 33, 64} {
			bad := strings.Repeat("k", size)
			for _, parents := range [][]string{{bad}, {bad, idOf('z')}, {idOf('a'), bad}, {idOf('a'), bad, idOf('z')}} {
				checkWrong(t, with(some(kind), func(e *api.Event) { e.Parents = parents }), "a parent of another length")
			}
		}
	}
}

// P6.1
func TestBodies(t *testing.T) {
	for _, kind := range kinds {
		keyed := kind == api.Add || kind == api.Remove
		for _, size := range []int{0, 1, 31, 32, 33, 64, 199, 200, 201, 255, 256, 288, 65535} {
			e := with(some(kind), func(e *api.Event) { e.Body = strings.Repeat("\x80", size) })
			if size == 32 || !keyed && size <= 200 {
				checkRight(t, e, "a body of a right length")
				continue
			}
			checkWrong(t, e, "a body of another length")
		}
		e := with(some(kind), func(e *api.Event) { e.Body = strings.Repeat("b", 1<<16+32) })
		if _, errno := event.Encode(e); errno != api.ErrForm {
			t.Errorf("kind %d: a body too long for a text: %d", kind, errno)
		}
	}
}

// P6.1: whatever the Sig is, the content is the same.
func TestSigs(t *testing.T) {
	for _, kind := range kinds {
		for _, size := range []int{0, 1, 2146, 65534, 65535} {
			checkRight(t, with(some(kind), func(e *api.Event) { e.Sig = strings.Repeat("s", size) }), "a Sig that may be")
		}
		for _, size := range []int{65536, 65537, 1 << 17} {
			e := with(some(kind), func(e *api.Event) { e.Sig = strings.Repeat("s", size) })
			checkNoBytes(t, e, "a Sig that is too long")
			if s, errno := event.Content(e); s != contentOf(e) || errno != api.OK {
				t.Errorf("a Sig of %d bytes: the content %s, %d", size, hexOf(s), errno)
			}
		}
	}
}

// P6.1, P6.3: cut off anywhere it is none, nor with something behind it.
func TestBytesCutOffOrLengthened(t *testing.T) {
	for _, kind := range kinds {
		for _, e := range []api.Event{
			some(kind),
			with(some(kind), func(e *api.Event) { e.Sig = "" }),
			with(some(kind), func(e *api.Event) { e.Sig = "\x00\x00" }),
		} {
			s := bytesOf(e)
			for i := range len(s) {
				checkUndecoded(t, s[:i], "cut off")
				checkUndecoded(t, s[i+1:], "cut off ahead")
			}
			for _, more := range []string{"\x00", "\x00\x00", "x", s} {
				checkUndecoded(t, s+more, "with something behind it")
			}
		}
	}
}

// P6.3: whatever bytes are decoded are encoded as they were.
func TestTurnedBytes(t *testing.T) {
	random := rand.New(rand.NewSource(6))
	taken, refused := 0, 0
	for range 20000 {
		e := some(kinds[random.Intn(len(kinds))])
		if e.Kind != api.Create {
			e.Parents = risingIds(1 + random.Intn(8))
		}
		b := []byte(bytesOf(e))
		for range 1 + random.Intn(3) {
			b[random.Intn(len(b))] ^= 1 << random.Intn(8)
		}
		d, errno := event.Decode(string(b))
		if errno != api.OK {
			checkUndecoded(t, string(b), "turned")
			refused++
			continue
		}
		taken++
		if s, errno := event.Encode(d); s != string(b) || errno != api.OK || !event.Right(d) {
			t.Errorf("%s: decoded, and encoded as %s, %d", hexOf(string(b)), hexOf(s), errno)
		}
	}
	if taken == 0 || refused == 0 {
		t.Errorf("%d taken, %d refused: nothing was tried", taken, refused)
	}
}

// P6.3
func TestAnyBytes(t *testing.T) {
	random := rand.New(rand.NewSource(7))
	for range 5000 {
		b := make([]byte, random.Intn(200))
		random.Read(b)
		if len(b) > 2 {
			copy(b, []byte{byte(random.Intn(7)), 0, 32})
		}
		d, errno := event.Decode(string(b))
		if errno == api.OK && bytesOf(d) != string(b) || errno != api.OK && (errno != api.ErrForm || !isZero(d)) {
			t.Errorf("%s: %#v, %d", hexOf(string(b)), d, errno)
		}
	}
	checkUndecoded(t, strings.Repeat("\x01", 1<<20), "a million bytes")
	checkUndecoded(t, bytesOf(some(api.Post))+strings.Repeat("\x00", 1<<20), "a million bytes behind it")
}

// P6.3
func TestEncodedIsDecoded(t *testing.T) {
	random := rand.New(rand.NewSource(8))
	for range 2000 {
		e := some(kinds[random.Intn(len(kinds))])
		b := make([]byte, 32)
		random.Read(b)
		e.Author = string(b)
		if e.Kind != api.Create {
			e.Parents = risingIds(1 + random.Intn(8))
		}
		if e.Kind != api.Add && e.Kind != api.Remove {
			body := make([]byte, random.Intn(201))
			random.Read(body)
			e.Body = string(body)
		}
		e.Sig = strings.Repeat(string(b), random.Intn(80))
		checkRight(t, e, "any event")
	}
}

// DOC.md's rule 4: an answer that its asker spoils is answered as it was.
func TestAnswersAreNewMemory(t *testing.T) {
	s := bytesOf(with(some(api.Post), func(e *api.Event) { e.Parents = risingIds(3) }))
	first, _ := event.Decode(s)
	first.Parents[0] = "spoilt"
	_ = append(first.Parents[:1], "spoilt")
	if again, errno := event.Decode(s); !slices.Equal(again.Parents, risingIds(3)) || errno != api.OK {
		t.Errorf("decoded again: %#v, %d", again, errno)
	}
	for _, text := range append(slices.Clone(first.Parents[2:]), first.Author, first.Body, first.Sig) {
		if inside(text, s) {
			t.Errorf("%q is the memory that was handed in", text)
		}
	}
}

// inside tells whether a text lies in the memory of another.
func inside(text, whole string) bool {
	from, at := uintptr(unsafe.Pointer(unsafe.StringData(whole))), uintptr(unsafe.Pointer(unsafe.StringData(text)))
	return at >= from && at < from+uintptr(len(whole))
}

// DOC.md's rule 4: what is handed in is not changed, its spare room neither.
func TestHandedInIsLeft(t *testing.T) {
	room := append(risingIds(2), "spare", "room")
	e := with(some(api.Post), func(e *api.Event) { e.Parents = room[:2] })
	want := slices.Clone(room)
	event.Right(e)
	event.Content(e)
	event.Encode(e)
	event.Check(e)
	if !reflect.DeepEqual(room, want) {
		t.Errorf("%q", room)
	}
}
