package event_test

import (
	"slices"
	"strings"
	"testing"
	"unsafe"

	"palaver/api"
	"palaver/event"
	"palaver/key"
	"palaver/sha"
)

// unsigned is what is handed in to be signed.
func unsigned(kind int, parents []string, body string) api.Event {
	return api.Event{Kind: kind, Parents: parents, Body: body}
}

// noContents is events without a content, whoever signs them.
func noContents() []api.Event {
	return []api.Event{
		{},
		unsigned(0, nil, "r"),
		unsigned(6, []string{idOf('p')}, "r"),
		unsigned(api.Create, []string{idOf('p')}, "r"),
		unsigned(api.Create, nil, strings.Repeat("b", 201)),
		unsigned(api.Post, nil, "t"),
		unsigned(api.Post, []string{idOf('p'), idOf('p')}, "t"),
		unsigned(api.Post, []string{idOf('q'), idOf('p')}, "t"),
		unsigned(api.Topic, risingIds(9), "t"),
		unsigned(api.Topic, []string{idOf('p')[:31]}, "t"),
		unsigned(api.Add, []string{idOf('p')}, idOf('m')[:31]),
		unsigned(api.Remove, []string{idOf('p')}, idOf('m')+"m"),
	}
}

func checkUnsigned(t *testing.T, e api.Event, k *key.Key, want api.Errno) {
	t.Helper()
	used := k.Used()
	if d, errno := event.Sign(e, k); !isZero(d) || errno != want {
		t.Errorf("%#v: signed as %#v, %d, want %d", e, d, errno, want)
	}
	if k.Used() != used {
		t.Errorf("%#v: a leaf was used", e)
	}
}

// P6.2
func TestSignKnown(t *testing.T) {
	body := ""
	for i := range 32 {
		body += string([]byte{byte(i)})
	}
	var eight []string
	for i := range 8 {
		eight = append(eight, idOf(byte(i)))
	}
	cases := []struct {
		seed         string
		height, used int
		e            api.Event
		size         int
		sum, id      string
	}{
		{"seed", 0, 0, unsigned(api.Create, nil, "r"), 2187, "ba613b7c6bbe27063b6397a67c4d781011cc78fe734892a13f5fb0bb74b3a80b", "5ba5ac7aead2e67a041c6df935112929fb3fdfab2728f54d7b046173f063b9f8"},
		{"seed", 2, 2, unsigned(api.Post, []string{idOf('a')}, "hello"), 2287, "d7c007426e91df05debb28762f4a41ea390b7340933d1b3c7c817bed4ed79477", "8e6e4a3b64dc2df03be12eca9c1ada44c9f1b58e2d14c8fe8f60047242309dfc"},
		{"", 1, 1, unsigned(api.Topic, []string{idOf(0), idOf(255)}, ""), 2282, "deef6429d0c08abf432b113175f89983d43f27d81b82562319e00f4028a57bd8", "dbefaa41e0d26677da01b5511a962e4f8a654768732e7f8c8aa37023fa94a6cb"},
		{"seed", 4, 15, unsigned(api.Add, eight, idOf('m')), 2602, "a4e05d21e779205ad1cb50b19b2ead3e43a91de6fcad4e385ba55fa43b5035a1", "13a76a3af6b76b8691861e91ae5558a5d2bc3988771d593e39700a5d9c5c10e6"},
		{"\x00\xff", 3, 0, unsigned(api.Remove, []string{idOf('p')}, body), 2346, "c5719bc85ffee8e3c3cd6e5030ae52bff5b72eb0efcf281497210aea30dc9f19", "f54be8dc29b6ead40ccc0d2a5215924a2b7c519f74f02a5891a214b4dfff8a17"},
	}
	for _, c := range cases {
		e, errno := event.Sign(c.e, key.New(c.seed, c.height, c.used))
		s, _ := event.Encode(e)
		if errno != api.OK || len(s) != c.size || hexOf(sha.Sum(s)) != c.sum || hexOf(event.Id(s)) != c.id {
			t.Errorf("kind %d: %d bytes of the digest %s, id %s, %d", c.e.Kind, len(s), hexOf(sha.Sum(s)), hexOf(event.Id(s)), errno)
		}
	}
}

// P6.2, P6.3: leaf by leaf, whatever stood as Author and Sig; what is signed is signed right.
func TestSign(t *testing.T) {
	k, beside := key.New("seed", 3, 1), key.New("seed", 3, 1)
	for _, kind := range kinds {
		for _, over := range []string{"", "any", strings.Repeat("x", 70000)} {
			if k.Left() == 0 {
				k, beside = key.New("seed", 3, 0), key.New("seed", 3, 0)
			}
			e := with(some(kind), func(e *api.Event) { e.Author, e.Sig = over, over })
			want := with(e, func(e *api.Event) { e.Author = k.Public() })
			want.Sig, _ = beside.Sign(contentOf(want))
			got, errno := event.Sign(e, k)
			if !alike(got, want) || errno != api.OK || k.Used() != beside.Used() {
				t.Errorf("kind %d: %#v, %d", kind, got, errno)
			}
			if errno := event.Check(got); errno != api.OK {
				t.Errorf("kind %d: Check %d", kind, errno)
			}
			if !key.Verify(k.Public(), contentOf(got), got.Sig) {
				t.Errorf("kind %d: no right signature of the content", kind)
			}
		}
	}
}

// P6.3
func TestSignedIsDecoded(t *testing.T) {
	k := key.New("another seed", 3, 0)
	for _, kind := range kinds {
		e, _ := event.Sign(some(kind), k)
		s, errno := event.Encode(e)
		if s != bytesOf(e) || errno != api.OK {
			t.Errorf("kind %d: %d bytes, %d", kind, len(s), errno)
		}
		d, errno := event.Decode(s)
		if !alike(d, e) || errno != api.OK || event.Check(d) != api.OK {
			t.Errorf("kind %d: decoded as %#v, %d", kind, d, errno)
		}
	}
}

// P6.2: ErrArg comes first, whatever the event is.
func TestSignWithoutAKey(t *testing.T) {
	for _, kind := range kinds {
		checkUnsigned(t, some(kind), nil, api.ErrArg)
	}
	for _, e := range noContents() {
		checkUnsigned(t, e, nil, api.ErrArg)
	}
}

// P6.2
func TestSignWithASpentKey(t *testing.T) {
	once := key.New("seed", 0, 0)
	event.Sign(some(api.Create), once)
	for _, k := range []*key.Key{once, key.New("seed", 0, 1), key.New("seed", 2, 4)} {
		for _, kind := range kinds {
			checkUnsigned(t, some(kind), k, api.ErrSpent)
		}
		for _, e := range noContents() {
			checkUnsigned(t, e, k, api.ErrForm)
		}
	}
}

// P6.2: no leaf is used by what has no content, so the next event is signed by it.
func TestSignWithoutAContent(t *testing.T) {
	k := key.New("seed", 0, 0)
	for _, e := range noContents() {
		checkUnsigned(t, e, k, api.ErrForm)
	}
	e, errno := event.Sign(some(api.Post), k)
	if errno != api.OK || event.Check(e) != api.OK {
		t.Errorf("behind them: %d", errno)
	}
}

// P6.2
func TestCheckOfWhatIsNotSigned(t *testing.T) {
	k := key.New("seed", 2, 0)
	for _, kind := range kinds {
		e := with(some(kind), func(e *api.Event) { e.Author = k.Public() })
		of := func(msg string) string {
			sig, _ := key.New("seed", 2, 0).Sign(msg)
			return sig
		}
		for _, sig := range []string{"", "sig", strings.Repeat("\x00", 2210), strings.Repeat("s", 65535), of(""), of(bytesOf(e)), of(contentOf(e))[1:], of(contentOf(e)) + "s", of(sha.Tag(7, contentOf(e)))} {
			if errno := event.Check(with(e, func(e *api.Event) { e.Sig = sig })); errno != api.ErrSign {
				t.Errorf("kind %d, a Sig of %d bytes: %d", kind, len(sig), errno)
			}
		}
		if errno := event.Check(with(e, func(e *api.Event) { e.Sig = of(contentOf(*e)) })); errno != api.OK {
			t.Errorf("kind %d, signed by hand: %d", kind, errno)
		}
	}
}

// P6.2: ErrForm comes ahead of ErrSign, though the signature is right.
func TestCheckOfWhatIsNotRight(t *testing.T) {
	for _, e := range noContents() {
		k := key.New("seed", 0, 0)
		e.Author = k.Public()
		e.Sig, _ = k.Sign(contentOf(e))
		if errno := event.Check(e); errno != api.ErrForm {
			t.Errorf("%#v: %d", e, errno)
		}
	}
}

// P6.2: whatever of a signed event is turned.
func TestCheckOfWhatWasTurned(t *testing.T) {
	other := key.New("other", 2, 0).Public()
	for _, kind := range kinds {
		e, _ := event.Sign(some(kind), key.New("seed", 2, 1))
		if event.Check(e) != api.OK {
			t.Errorf("kind %d: not signed", kind)
		}
		turned := []api.Event{
			with(e, func(e *api.Event) { e.Author = other }),
			with(e, func(e *api.Event) { e.Author = idOf('a') }),
			with(e, func(e *api.Event) { e.Sig = e.Sig[:len(e.Sig)-1] + string([]byte{e.Sig[len(e.Sig)-1] ^ 1}) }),
			with(e, func(e *api.Event) { e.Sig = "\x00\x02" + e.Sig[2:] }),
			with(e, func(e *api.Event) { e.Sig = e.Sig[:100] + string([]byte{e.Sig[100] ^ 128}) + e.Sig[101:] }),
			with(e, func(e *api.Event) { e.Body = "\x00" + e.Body[1:] }),
		}
		if kind != api.Create {
			turned = append(turned,
				with(e, func(e *api.Event) { e.Parents = []string{idOf('q')} }),
				with(e, func(e *api.Event) { e.Parents = []string{idOf('p'), idOf('q')} }),
				with(e, func(e *api.Event) { e.Kind = otherKind(e.Kind) }))
		}
		for i, d := range turned {
			if errno := event.Check(d); errno != api.ErrSign {
				t.Errorf("kind %d, turned %d: %d", kind, i, errno)
			}
		}
	}
}

// otherKind is a kind as which an event is right too.
func otherKind(kind int) int {
	switch kind {
	case api.Post:
		return api.Topic
	case api.Topic:
		return api.Post
	case api.Add:
		return api.Remove
	}
	return api.Add
}

// DOC.md's rule 4: what is signed shares no memory with what was handed in.
func TestSignedIsNewMemory(t *testing.T) {
	room := append(risingIds(2), "spare", "room")
	body := strings.Clone("a body of some length")
	e := unsigned(api.Post, room[:2], body)
	got, _ := event.Sign(e, key.New("seed", 0, 0))
	if !slices.Equal(room, append(risingIds(2), "spare", "room")) {
		t.Errorf("what was handed in was changed: %q", room)
	}
	if unsafe.StringData(got.Body) == unsafe.StringData(body) {
		t.Error("the body is the memory that was handed in")
	}
	for i, id := range got.Parents {
		if unsafe.StringData(id) == unsafe.StringData(room[i]) {
			t.Errorf("the parent %d is the memory that was handed in", i)
		}
	}
	got.Parents[0] = "spoilt"
	_ = append(got.Parents, "spoilt")
	if !slices.Equal(room, append(risingIds(2), "spare", "room")) {
		t.Errorf("the list is the memory that was handed in: %q", room)
	}
	room[1] = "spoilt"
	if got.Parents[1] != risingIds(2)[1] {
		t.Error("the answer is the list that was handed in")
	}
}
