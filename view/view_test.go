package view_test

import (
	"reflect"
	"slices"
	"strconv"
	"strings"
	"testing"
	"unsafe"

	"palaver/api"
	"palaver/event"
	"palaver/key"
	"palaver/octets"
	"palaver/room"
	"palaver/view"
)

// someRoom has two members, and one that was removed.
const someRoom = `
	r  create a - name
	x  add    a r b
	w  add    a x c
	t  topic  b w topic
	p1 post   c w one
	y  remove a p1 c
	p2 post   c p1 two
	p3 post   b t,y three
`

const allOfSomeRoom = "r x w t p1 y p2 p3"

// P17.1: the chapter's example.
func TestExample(t *testing.T) {
	h := newHall(t, 0, "r create a - name")
	s, m := h.set("")
	checkAdd(t, "a Create", s, m, h.texts["r"], api.OK)
	checkAdd(t, "again", s, m, h.texts["r"], api.ErrTwice)
	checkLook(t, s, h.look("name", "", "a", ""))
}

// P17.1: a room has 32 bytes, of any kind.
func TestNew(t *testing.T) {
	for n := range 100 {
		for _, b := range []string{"i", "\x00", "\xff"} {
			id := strings.Repeat(b, n)
			s := view.New(id)
			if n != 32 && s != nil {
				t.Errorf("a room of %d bytes: not nil", n)
			}
			if n == 32 {
				checkAsModel(t, s, &model{room: id})
			}
		}
	}
}

// P17.1: what is no event's bytes.
func TestAddNoEvent(t *testing.T) {
	h := newHall(t, 3, someRoom)
	text := h.texts["p1"]
	for _, names := range []string{"", allOfSomeRoom} {
		s, m := h.set(names)
		for _, b := range []string{
			"", "\x00", "any text", strings.Repeat("\x02", 70000), h.id("p1"),
			text[:len(text)-1], text[1:], text + "\x00", text + text, "\x00" + text[1:], "\x06" + text[1:], "\xff" + text[1:],
			"\x01" + text[1:], "\x04" + text[1:],
		} {
			checkAdd(t, "no event", s, m, b, api.ErrForm)
			checkList(t, "Missing of no event", s.Missing(b), nil)
		}
	}
}

// P17.1: what isn't signed, wherever something was turned.
func TestAddUnsigned(t *testing.T) {
	h := newHall(t, 3, someRoom)
	other, _ := key.New("a", 3, 0).Sign("another message")
	s, m := h.set("r x w p1")
	for _, name := range []string{"r", "p1", "y"} {
		for what, turn := range map[string]func(e *api.Event){
			"no signature":          func(e *api.Event) { e.Sig = "" },
			"a byte less":           func(e *api.Event) { e.Sig = e.Sig[:len(e.Sig)-1] },
			"a byte more":           func(e *api.Event) { e.Sig += "\x00" },
			"32 bytes less":         func(e *api.Event) { e.Sig = e.Sig[:len(e.Sig)-32] },
			"another leaf":          func(e *api.Event) { e.Sig = "\x00\x07" + e.Sig[2:] },
			"the last byte turned":  func(e *api.Event) { e.Sig = e.Sig[:len(e.Sig)-1] + string([]byte{^e.Sig[len(e.Sig)-1]}) },
			"another one's message": func(e *api.Event) { e.Sig = other },
			"any text":              func(e *api.Event) { e.Sig = strings.Repeat("s", 2146) },
			"another author":        func(e *api.Event) { e.Author = h.key("b").Public() },
			"no author's public":    func(e *api.Event) { e.Author = strings.Repeat("a", 32) },
			"another body":          func(e *api.Event) { e.Body = strings.Repeat("b", 32) },
		} {
			checkAdd(t, what, s, m, h.turned(name, turn), api.ErrSign)
		}
	}
	checkAdd(t, "another kind", s, m, h.turned("y", func(e *api.Event) { e.Kind = api.Add }), api.ErrSign)
	checkAdd(t, "another parent", s, m, h.turned("y", func(e *api.Event) { e.Parents = h.ids("x") }), api.ErrSign)
	checkAdd(t, "as it was", s, m, h.turned("y", func(e *api.Event) {}), api.OK)
}

// P17.1: of several faults the first that is named.
func TestAddByTheFirstFault(t *testing.T) {
	h := newHall(t, 3, someRoom+`
		n1 post   d p3 t
		n2 post   d r t
		o  create d - other
	`)
	unsigned := func(e *api.Event) { e.Sig = e.Sig[:len(e.Sig)-1] + "?" }
	s, m := h.set("r x w")
	checkAdd(t, "unsigned, a parent isn't there, and by no member", s, m, h.turned("n1", unsigned), api.ErrSign)
	checkAdd(t, "unsigned, and a parent isn't there", s, m, h.turned("p3", unsigned), api.ErrSign)
	checkAdd(t, "unsigned, and by no member", s, m, h.turned("n2", unsigned), api.ErrSign)
	checkAdd(t, "unsigned, and another Create", s, m, h.turned("o", unsigned), api.ErrSign)
	checkAdd(t, "a parent isn't there, and by no member", s, m, h.texts["n1"], api.ErrMissing)
	checkAdd(t, "by no member", s, m, h.texts["n2"], api.ErrDenied)
	checkAdd(t, "another Create", s, m, h.texts["o"], api.ErrDenied)
}

// P17.1: parents that aren't there.
func TestAddBeforeItsParents(t *testing.T) {
	h := newHall(t, 3, someRoom)
	s, m := h.set("")
	for _, name := range []string{"p3", "p1", "x"} {
		checkAdd(t, name, s, m, h.texts[name], api.ErrMissing)
	}
	for _, name := range strings.Fields("r x w t") {
		checkAdd(t, name, s, m, h.texts[name], api.OK)
	}
	checkAdd(t, "one of two parents isn't there", s, m, h.texts["p3"], api.ErrMissing)
	checkAdd(t, "a parent's parent is there", s, m, h.texts["y"], api.ErrMissing)
	for _, name := range strings.Fields("p1 y p3 p2") {
		checkAdd(t, name, s, m, h.texts[name], api.OK)
		checkAdd(t, name, s, m, h.texts[name], api.ErrTwice)
	}
}

// P17.1: what isn't good behind what is there.
func TestAddDenied(t *testing.T) {
	h := newHall(t, 4, someRoom+`
		o  create a - name
		n1 post   d p3 t
		n2 add    d p3 d
		n3 remove d r a
		n4 topic  b r t
		n5 post   c y t
		n6 post   c p2,p3 t
		n7 post   b x t
		q  create a - name
		z1 post   c x t
		z2 add    b p3 d
		z3 post   d z2 t
		z4 post   d p3 u
	`)
	s, m := h.set("")
	checkAdd(t, "another room's root", s, m, h.texts["o"], api.ErrDenied)
	checkAdd(t, "the room's", s, m, h.texts["r"], api.OK)
	checkAdd(t, "another Create by the same", s, m, h.texts["o"], api.ErrDenied)
	checkAdd(t, "who isn't a member yet", s, m, h.texts["n4"], api.ErrDenied)
	for _, name := range strings.Fields("x w t p1 y p3") {
		checkAdd(t, name, s, m, h.texts[name], api.OK)
	}
	for _, c := range []struct{ what, name string }{
		{"nobody", "n1"},
		{"nobody, who adds itself", "n2"},
		{"nobody, who removes the founder", "n3"},
		{"who was no member then", "n4"},
		{"who was added beside", "z1"},
		{"who was removed", "n5"},
	} {
		checkAdd(t, c.what, s, m, h.texts[c.name], api.ErrDenied)
	}
	checkAdd(t, "who was removed, beside that", s, m, h.texts["p2"], api.OK)
	checkAdd(t, "who was removed, behind both", s, m, h.texts["n6"], api.ErrDenied)
	checkAdd(t, "a member, behind what came long ago", s, m, h.texts["n7"], api.OK)
	checkAdd(t, "a member adds another one", s, m, h.texts["z2"], api.OK)
	checkAdd(t, "who was added", s, m, h.texts["z3"], api.OK)
	checkAdd(t, "who was added beside", s, m, h.texts["z4"], api.ErrDenied)
	checkAdd(t, "what was refused", s, m, h.texts["n1"], api.ErrDenied)
}

// P17.1: a room that no Create has stays empty.
func TestAddWithoutARoot(t *testing.T) {
	h := newHall(t, 3, someRoom)
	for _, id := range []string{h.id("x"), h.id("p3"), strings.Repeat("\x00", 32), strings.Repeat("r", 32)} {
		s, m := view.New(id), &model{room: id}
		for _, name := range strings.Fields(allOfSomeRoom) {
			want := api.ErrMissing
			if name == "r" {
				want = api.ErrDenied
			}
			checkAdd(t, name, s, m, h.texts[name], want)
		}
	}
}

// fullHall is a room of 300 events, each behind the one ahead, and the names of all.
func fullHall(t *testing.T) (*hall, []string) {
	t.Helper()
	h := newHall(t, 4, "0 create a0 - name")
	h.texts["r"] = h.texts["0"]
	names := []string{"0"}
	author := 0
	for i := 1; i < api.MaxEvents; i++ {
		line := " post a" + strconv.Itoa(author) + " " + names[i-1] + " " + strconv.Itoa(i)
		if h.key("a"+strconv.Itoa(author)).Left() == 1 {
			line = " add a" + strconv.Itoa(author) + " " + names[i-1] + " a" + strconv.Itoa(author+1)
			author++
		}
		names = append(names, strconv.Itoa(i))
		h.say(names[i] + line)
	}
	return h, names
}

// P17.1: one more than 300, and which faults come ahead of that.
func TestAddToAFullSet(t *testing.T) {
	h, names := fullHall(t)
	last := names[len(names)-1]
	h.say("m post b0 " + last + " t")
	h.say("n post z " + last + " t\nk post z m t\no create z - t\nl post a18 " + last + " t\nf post a18 0 t")
	s, m := h.set(strings.Join(names[:299], " "))
	checkAdd(t, "another room's, while there is a place", s, m, h.texts["o"], api.ErrDenied)
	checkAdd(t, "the last place", s, m, h.texts[last], api.OK)
	_, e := h.unsigned("e post a18 " + last + " t")
	for _, c := range []struct {
		what, text string
		want       api.Errno
	}{
		{"one more", h.texts["l"], api.ErrLong},
		{"by who is no member", h.texts["n"], api.ErrLong},
		{"by who was no member then", h.texts["f"], api.ErrLong},
		{"another Create", h.texts["o"], api.ErrLong},
		{"no event", h.texts["l"] + "\x00", api.ErrForm},
		{"one that is there", h.texts["7"], api.ErrTwice},
		{"the root", h.texts["0"], api.ErrTwice},
		{"unsigned", encoded(t, e), api.ErrSign},
		{"a parent isn't there", h.texts["k"], api.ErrMissing},
	} {
		checkAdd(t, c.what, s, m, c.text, c.want)
	}
	if s.May(e) {
		t.Error("May: true of one more than may be")
	}
	if len(s.Look().Posts) != 300-1-18 {
		t.Errorf("%d posts", len(s.Look().Posts))
	}
}

// P17.2
func TestMissing(t *testing.T) {
	h := newHall(t, 3, someRoom+`
		m post b p2,p3,r,x,t t
	`)
	text := h.texts["m"]
	for _, c := range []struct{ there, missing string }{
		{"", "p2 p3 r x t"},
		{"r", "p2 p3 x t"},
		{"r x w", "p2 p3 t"},
		{"r x w p1 p2", "p3 t"},
		{"r x w t p1 y p3", "p2"},
		{allOfSomeRoom, ""},
		{allOfSomeRoom + " m", ""},
	} {
		s, _ := h.set(c.there)
		want := slices.Sorted(slices.Values(h.ids(c.missing)))
		for range 2 {
			checkList(t, "with "+c.there, s.Missing(text), want)
		}
		unsigned := h.turned("m", func(e *api.Event) { e.Sig = "" })
		checkList(t, "unsigned, with "+c.there, s.Missing(unsigned), want)
		checkList(t, "no event, with "+c.there, s.Missing(text+"\x00"), nil)
		checkList(t, "of a Create, with "+c.there, s.Missing(h.texts["r"]), nil)
	}
	// Eight, as many as may be, none of them there.
	var parents []string
	for i := range 8 {
		parents = append(parents, strings.Repeat(string([]byte{byte(255 - i)}), 32))
	}
	slices.Sort(parents)
	s, _ := h.set("r")
	checkList(t, "eight", s.Missing(h.turned("m", func(e *api.Event) { e.Parents = parents })), parents)
}

// P17.2: what isn't there.
func TestNotThere(t *testing.T) {
	h := newHall(t, 3, someRoom)
	s, m := h.set("r x w t")
	for _, id := range []string{"", "r", h.id("p1"), h.id("p3"), h.id("r")[:31], h.id("r") + "\x00", strings.Repeat("\x00", 32), h.texts["r"]} {
		if s.Has(id) || s.Bytes(id) != "" {
			t.Errorf("%.40x: Has %v, Bytes %.40x", id, s.Has(id), s.Bytes(id))
		}
	}
	checkAsModel(t, s, m)
}

// P17.2: of a set to which nothing was added, or nothing that may be.
func TestEmpty(t *testing.T) {
	h := newHall(t, 3, someRoom)
	s, m := h.set("")
	for range 2 {
		checkAsModel(t, s, m)
		checkLook(t, s, api.View{})
		for _, name := range strings.Fields(allOfSomeRoom) {
			if s.Has(h.id(name)) || s.Bytes(h.id(name)) != "" {
				t.Errorf("%s is there", name)
			}
		}
		checkAdd(t, "too early", s, m, h.texts["x"], api.ErrMissing)
	}
}

// P17.2: what the room looks like, step by step; it is worked out anew whenever something was added.
func TestLook(t *testing.T) {
	h := newHall(t, 3, someRoom)
	s, m := h.set("")
	for _, c := range []struct {
		name string
		want api.View
	}{
		{"r", h.look("name", "", "a", "")},
		{"x", h.look("name", "", "a b", "")},
		{"w", h.look("name", "", "a b c", "")},
		{"p1", h.look("name", "", "a b c", "c:one")},
		{"t", h.look("name", "topic", "a b c", "c:one")},
		{"p2", h.look("name", "topic", "a b c", "c:one c:two")},
		{"y", h.look("name", "topic", "a b", "c:one")},
		{"p3", h.look("name", "topic", "a b", "c:one b:three")},
	} {
		checkAdd(t, c.name, s, m, h.texts[c.name], api.OK)
		checkLook(t, s, c.want)
		checkAdd(t, c.name, s, m, h.texts[c.name], api.ErrTwice)
		checkLook(t, s, c.want)
	}
}

// P17.2 (Ways): what the room looks like is kept.
func TestLookIsKept(t *testing.T) {
	h := newHall(t, 4, someRoom)
	for i := range 12 {
		h.say("q" + strconv.Itoa(i) + " topic a r " + strconv.Itoa(i))
	}
	s, m := h.set(allOfSomeRoom + " q0 q1 q2 q3 q4 q5 q6 q7 q8 q9 q10 q11")
	entries := m.entries()
	anew := testing.AllocsPerRun(10, func() { room.Look(m.room, entries) })
	kept := testing.AllocsPerRun(10, func() { s.Look() })
	if kept*5 > anew {
		t.Errorf("%v allocations of what is kept, %v of what is worked out anew", kept, anew)
	}
}

// P17.2
func TestMay(t *testing.T) {
	h := newHall(t, 3, someRoom+"m post a p3 later")
	s, m := h.set(allOfSomeRoom)
	for _, c := range []struct {
		what, line string
		want       bool
	}{
		{"a member", "e post a p3 t", true},
		{"behind all heads", "e post b p2,p3 t", true},
		{"each kind", "e topic b p3 t", true},
		{"each kind", "e add b p3 d", true},
		{"each kind", "e remove b p3 a", true},
		{"the founder, behind the root", "e post a r t", true},
		{"a member, behind the root", "e post b r t", false},
		{"who was removed, ahead of that", "e post c p1 t", true},
		{"who was removed, beside that", "e post c p2 t", true},
		{"who was removed", "e post c p3 t", false},
		{"nobody", "e post d p3 t", false},
		{"nobody, who adds itself", "e add d p3 d", false},
		{"a parent that isn't there", "e post a m t", false},
		{"one of two parents that isn't there", "e post a p3,m t", false},
		{"no parents", "e post a - t", false},
		{"a Create", "e create a - name", false},
		{"a Create behind others", "e create a p3 name", false},
		{"one that is there", "p3 post b t,y three", true},
	} {
		_, e := h.unsigned(c.line)
		for _, sig := range []string{"", "any", strings.Repeat("s", 70000)} {
			e.Sig = sig
			if got := s.May(e); got != c.want {
				t.Errorf("%s: %v", c.what, got)
			}
		}
	}
	checkAsModel(t, s, m)
	root, _ := event.Decode(h.texts["r"])
	empty, _ := h.set("")
	for _, set := range []*view.Set{s, empty} {
		if set.May(root) || set.May(api.Event{}) || set.May(api.Event{Kind: api.Create, Author: root.Author}) {
			t.Error("May: true of the root, or of nothing")
		}
	}
	_, e := h.unsigned("e post a r t")
	if empty.May(e) {
		t.Error("May: true, and the root isn't there")
	}
}

// P17.2: May of events that aren't right, by authors of any bytes, behind ids of any bytes.
func TestMayOfAnything(t *testing.T) {
	h := newHall(t, 3, someRoom)
	s, m := h.set(allOfSomeRoom)
	public, heads := h.key("a").Public(), h.ids("p2,p3")
	for _, author := range []string{"", "a", public[:31], public + "\x00", strings.Repeat("\x00", 32), h.id("r")} {
		if s.May(api.Event{Kind: api.Post, Author: author, Parents: heads}) {
			t.Errorf("by %x: true", author)
		}
	}
	for _, id := range []string{"", "?", "e", "\x00", h.id("r")[:31], strings.Repeat("?", 32), strings.Repeat("i", 100000)} {
		for _, parents := range [][]string{{id}, {heads[0], id}, {id, heads[0]}} {
			if s.May(api.Event{Kind: api.Post, Author: public, Parents: parents}) {
				t.Errorf("behind %.40x: true", id)
			}
		}
	}
	for _, kind := range []int{api.Post, api.Topic, api.Add, api.Remove} {
		e := api.Event{Kind: kind, Author: public, Parents: []string{heads[1], heads[0], heads[1]}, Body: strings.Repeat("b", 201)}
		if !s.May(e) {
			t.Errorf("kind %d: false, though it is good", kind)
		}
	}
	checkAsModel(t, s, m)
}

// P17.2: what may be is what can be added once it is signed.
func TestMayAsAdd(t *testing.T) {
	h := newHall(t, 4, someRoom)
	s, m := h.set(allOfSomeRoom)
	i := 0
	for _, author := range []string{"a", "b", "c", "d"} {
		for _, rest := range []string{"post r", "post w", "topic p2", "add p3 d", "post p2,p3"} {
			name := "e" + strconv.Itoa(i)
			kind, parents, _ := strings.Cut(rest, " ")
			line := name + " " + kind + " " + author + " " + parents
			i++
			_, e := h.unsigned(line)
			want := api.ErrDenied
			if s.May(e) {
				want = api.OK
			}
			h.say(line)
			checkAdd(t, line, s, m, h.texts[name], want)
		}
	}
}

// P17.2: a set that is nil.
func TestNil(t *testing.T) {
	h := newHall(t, 1, "r create a - name\np post a r t")
	var s *view.Set
	for _, text := range []string{"", "any", h.texts["r"], h.texts["p"]} {
		if id, errno := s.Add(text); id != "" || errno != api.ErrArg {
			t.Errorf("Add: %x, %d", id, errno)
		}
		if id, errno := s.Check(text); id != "" || errno != api.ErrArg {
			t.Errorf("Check: %x, %d", id, errno)
		}
		checkList(t, "Missing", s.Missing(text), nil)
	}
	for _, id := range []string{"", h.id("r"), h.id("p")} {
		if s.Has(id) || s.Bytes(id) != "" {
			t.Errorf("%x is there", id)
		}
	}
	checkAsModel(t, s, &model{})
	_, e := h.unsigned("e post a r t")
	if s.May(e) || s.May(api.Event{}) {
		t.Error("May: true")
	}
}

// Rule 5: a set that New didn't make doesn't panic.
func TestNoPanic(t *testing.T) {
	h := newHall(t, 1, "r create a - name\np post a r t")
	s := new(view.Set)
	for _, text := range []string{"", h.texts["r"], h.texts["p"]} {
		s.Add(text)
		s.Check(text)
		s.Missing(text)
		s.Has(event.Id(text))
		s.Bytes(event.Id(text))
	}
	s.Room()
	s.Len()
	s.Ids()
	s.Order()
	s.Heads()
	s.Look()
	s.May(api.Event{})
}

// Rule 4: what is handed in isn't kept, nor changed.
func TestHandedInIsTheirOwners(t *testing.T) {
	h := newHall(t, 3, someRoom)
	spoilt := func(text string, use func(text string)) {
		b := []byte(text)
		use(unsafe.String(&b[0], len(b)))
		if string(b) != text {
			t.Errorf("%.40x was changed", text)
		}
		clear(b)
	}
	m := &model{room: h.id("r")}
	var s *view.Set
	spoilt(h.id("r"), func(text string) { s = view.New(text) })
	for _, name := range strings.Fields(allOfSomeRoom) {
		spoilt(h.texts[name], func(text string) {
			s.Check(text)
			s.Add(text)
		})
		m.add(h.texts[name])
	}
	checkAsModel(t, s, m)
	_, e := h.unsigned("e post a p2,p3 t")
	e.Parents = append(e.Parents, "spare")
	was := slices.Clone(e.Parents)
	s.May(api.Event{Kind: e.Kind, Author: e.Author, Parents: e.Parents[:2]})
	if !reflect.DeepEqual(e.Parents, was) {
		t.Error("May changed what was handed in")
	}
}

// Rule 4: what is answered is new memory.
func TestAnswersAreNew(t *testing.T) {
	h := newHall(t, 3, someRoom)
	s, m := h.set(allOfSomeRoom)
	early, _ := h.set("")
	look := func() []string {
		v := s.Look()
		out := append([]string{v.Name, v.Topic}, v.Members...)
		for _, post := range v.Posts {
			out = append(out, post.Author, post.Text)
		}
		return out
	}
	for what, ask := range map[string]func() []string{
		"Ids": s.Ids, "Order": s.Order, "Heads": s.Heads, "Look": look,
		"Room":    func() []string { return []string{s.Room()} },
		"Bytes":   func() []string { return []string{s.Bytes(h.id("p1"))} },
		"Missing": func() []string { return early.Missing(h.texts["p3"]) },
	} {
		x, y := ask(), ask()
		if len(x) == 0 || !slices.Equal(x, y) {
			t.Errorf("%s: %x and %x", what, x, y)
		}
		for i := range x {
			if unsafe.StringData(x[i]) == unsafe.StringData(y[i]) {
				t.Errorf("%s: text %d is the same memory twice", what, i)
			}
		}
		_ = append(x[:0], "spoilt")
		checkList(t, what, ask(), y)
	}
	v := s.Look()
	v.Members[0], v.Posts[0] = "spoilt", api.Said{}
	_, _ = append(v.Members[:1], "spoilt"), append(v.Posts[:1], api.Said{})
	checkAsModel(t, s, m)
	text := h.texts["r"]
	missing := early.Missing(h.texts["x"])
	if within(missing[0], h.texts["x"]) || within(s.Bytes(h.id("r")), text) {
		t.Error("an answer is memory of what was handed in")
	}
}

// within tells whether a text is a piece of the other one's memory.
func within(piece, text string) bool {
	at := uintptr(unsafe.Pointer(unsafe.StringData(piece)))
	from := uintptr(unsafe.Pointer(unsafe.StringData(text)))
	return at >= from && at < from+uintptr(len(text))
}

// Rule 4: the id that an Add answers isn't the one that is kept.
func TestTheIdOfAnAddIsNew(t *testing.T) {
	h := newHall(t, 1, "r create a - name\np post a r t")
	s, m := h.set("r")
	id, _ := s.Add(h.texts["p"])
	m.add(h.texts["p"])
	clear(unsafe.Slice(unsafe.StringData(id), len(id)))
	checkAsModel(t, s, m)
}

// P17.2: names and texts of any bytes, and of as many as may be.
func TestAnyBytes(t *testing.T) {
	for _, body := range []string{"", "\x00", "\xff\xfe", "\n \t", strings.Repeat("\x80", 200)} {
		k := key.New(body, 2, 0)
		s := view.New(strings.Repeat("r", 32))
		last := ""
		for _, kind := range []int{api.Create, api.Post, api.Topic} {
			e := api.Event{Kind: kind, Body: body}
			if last != "" {
				e.Parents = []string{last}
			}
			signed, _ := event.Sign(e, k)
			text := encoded(t, signed)
			if last = event.Id(text); kind == api.Create {
				s = view.New(last)
			}
			if _, errno := s.Add(text); errno != api.OK || s.Bytes(last) != text {
				t.Errorf("a body of %d bytes: %d", len(body), errno)
			}
		}
		checkLook(t, s, api.View{Name: body, Topic: body, Members: []string{k.Public()}, Posts: []api.Said{{Author: k.Public(), Text: body}}})
	}
}

// P17.1: events of 8 parents, and bytes that are longer than any right event's.
func TestManyParents(t *testing.T) {
	h := newHall(t, 4, "r create a - name")
	var names []string
	for i := range 8 {
		names = append(names, "p"+strconv.Itoa(i))
		h.say(names[i] + " post a r " + strconv.Itoa(i))
	}
	h.say("q post a " + strings.Join(names, ",") + " t")
	s, m := h.set("r " + strings.Join(names, " "))
	checkList(t, "Heads", s.Heads(), slices.Sorted(slices.Values(h.ids(strings.Join(names, " ")))))
	long, _ := octets.Text(strings.Repeat("x", 65535))
	checkAdd(t, "long bytes", s, m, long, api.ErrForm)
	checkAdd(t, "a long signature", s, m, h.turned("q", func(e *api.Event) { e.Sig = strings.Repeat("s", 65535) }), api.ErrSign)
	checkAdd(t, "8 parents", s, m, h.texts["q"], api.OK)
	checkList(t, "Heads", s.Heads(), h.ids("q"))
}
