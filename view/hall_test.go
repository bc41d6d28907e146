package view_test

import (
	"slices"
	"strings"
	"testing"

	"palaver/api"
	"palaver/event"
	"palaver/key"
	"palaver/room"
	"palaver/view"
)

// hall is events that are signed, by names of our own.
type hall struct {
	t      *testing.T
	height int
	keys   map[string]*key.Key
	texts  map[string]string
}

// newHall has the events of some lines: the name, the kind, the author's name, the parents' names with commas between ("-":
// none), the body, of an Add or a Remove a key's name.
func newHall(t *testing.T, height int, lines string) *hall {
	t.Helper()
	h := &hall{t, height, map[string]*key.Key{}, map[string]string{}}
	h.say(lines)
	return h
}

func (h *hall) key(name string) *key.Key {
	if h.keys[name] == nil {
		h.keys[name] = key.New(name, h.height, 0)
	}
	return h.keys[name]
}

func (h *hall) id(name string) string {
	h.t.Helper()
	if h.texts[name] == "" {
		h.t.Fatalf("no event %q", name)
	}
	return event.Id(h.texts[name])
}

func (h *hall) ids(names string) []string {
	h.t.Helper()
	var out []string
	for _, name := range strings.Fields(strings.ReplaceAll(names, ",", " ")) {
		out = append(out, h.id(name))
	}
	return out
}

// unsigned is a line's event and its name.
func (h *hall) unsigned(line string) (string, api.Event) {
	h.t.Helper()
	kinds := map[string]int{"create": api.Create, "post": api.Post, "topic": api.Topic, "add": api.Add, "remove": api.Remove}
	words := append(strings.Fields(line), "")
	if len(words) < 5 || kinds[words[1]] == 0 {
		h.t.Fatalf("no event: %q", line)
	}
	e := api.Event{Kind: kinds[words[1]], Author: h.key(words[2]).Public(), Body: words[4]}
	if words[3] != "-" {
		e.Parents = slices.Sorted(slices.Values(h.ids(words[3])))
	}
	if e.Kind == api.Add || e.Kind == api.Remove {
		e.Body = h.key(words[4]).Public()
	}
	return words[0], e
}

func (h *hall) say(lines string) {
	h.t.Helper()
	for _, line := range strings.Split(lines, "\n") {
		if strings.TrimSpace(line) == "" {
			continue
		}
		name, e := h.unsigned(line)
		signed, errno := event.Sign(e, h.key(strings.Fields(line)[2]))
		if errno != api.OK {
			h.t.Fatalf("%q: Sign %d", line, errno)
		}
		h.texts[name] = encoded(h.t, signed)
	}
}

func encoded(t *testing.T, e api.Event) string {
	t.Helper()
	text, errno := event.Encode(e)
	if errno != api.OK {
		t.Fatalf("Encode %d", errno)
	}
	return text
}

// turned is an event's bytes behind a change of it.
func (h *hall) turned(name string, turn func(e *api.Event)) string {
	h.t.Helper()
	e, _ := event.Decode(h.texts[name])
	turn(&e)
	return encoded(h.t, e)
}

// set is one to which some events were added, and its model; the room is the event "r".
func (h *hall) set(names string) (*view.Set, *model) {
	h.t.Helper()
	s, m := view.New(h.id("r")), &model{room: h.id("r")}
	for _, name := range strings.Fields(names) {
		if id, errno := s.Add(h.texts[name]); id != h.id(name) || errno != api.OK {
			h.t.Fatalf("Add of %q: %x, %d", name, id, errno)
		}
		m.add(h.texts[name])
	}
	checkAsModel(h.t, s, m)
	return s, m
}

// look is the room's, of the names of members and posts' authors; a post is an author, a colon, a text.
func (h *hall) look(name, topic, members, posts string) api.View {
	v := api.View{Name: name, Topic: topic}
	for _, member := range strings.Fields(members) {
		v.Members = append(v.Members, h.key(member).Public())
	}
	for _, post := range strings.Fields(posts) {
		author, text, _ := strings.Cut(post, ":")
		v.Posts = append(v.Posts, api.Said{Author: h.key(author).Public(), Text: text})
	}
	return v
}

// model is a set told another way: what was added, and each question asked anew.
type model struct {
	room  string
	texts []string
}

func (m *model) add(text string) {
	m.texts = append(m.texts, text)
}

func (m *model) entries() []api.Entry {
	var out []api.Entry
	for _, text := range m.texts {
		e, _ := event.Decode(text)
		out = append(out, api.Entry{Id: event.Id(text), Kind: e.Kind, Author: e.Author, Parents: e.Parents, Body: e.Body})
	}
	return out
}

func (m *model) ids() []string {
	var out []string
	for _, text := range m.texts {
		out = append(out, event.Id(text))
	}
	return out
}

func (m *model) heads() []string {
	heads := m.ids()
	for _, e := range m.entries() {
		heads = slices.DeleteFunc(heads, func(id string) bool { return slices.Contains(e.Parents, id) })
	}
	slices.Sort(heads)
	return heads
}

// order looks through all entries for each that it tells.
func (m *model) order() []string {
	var out []string
	untold := func(id string) bool { return !slices.Contains(out, id) }
	for rest := m.entries(); len(rest) > 0; {
		var ready []string
		for _, e := range rest {
			if !slices.ContainsFunc(e.Parents, untold) {
				ready = append(ready, e.Id)
			}
		}
		lowest := slices.Min(ready)
		out = append(out, lowest)
		rest = slices.DeleteFunc(rest, func(e api.Entry) bool { return e.Id == lowest })
	}
	return out
}

func alike(a, b api.View) bool {
	return a.Name == b.Name && a.Topic == b.Topic && slices.Equal(a.Members, b.Members) && slices.Equal(a.Posts, b.Posts)
}

func checkLook(t *testing.T, s *view.Set, want api.View) {
	t.Helper()
	for range 2 {
		if got := s.Look(); !alike(got, want) {
			t.Errorf("Look: %q, not %q", got, want)
		}
	}
}

func checkList(t *testing.T, what string, got, want []string) {
	t.Helper()
	if !slices.Equal(got, want) {
		t.Errorf("%s: %d ids %.300x, not %d %.300x", what, len(got), got, len(want), want)
	}
}

func checkAsModel(t *testing.T, s *view.Set, m *model) {
	t.Helper()
	if s.Room() != m.room || s.Len() != len(m.texts) {
		t.Errorf("Room %x, Len %d, not %x, %d", s.Room(), s.Len(), m.room, len(m.texts))
	}
	checkList(t, "Ids", s.Ids(), m.ids())
	checkList(t, "Order", s.Order(), m.order())
	checkList(t, "Heads", s.Heads(), m.heads())
	for _, text := range m.texts {
		id := event.Id(text)
		if !s.Has(id) || s.Bytes(id) != text || len(s.Missing(text)) != 0 {
			t.Errorf("%x: Has %v, Bytes %.40x, Missing %x", id, s.Has(id), s.Bytes(id), s.Missing(text))
		}
	}
	checkLook(t, s, room.Look(m.room, m.entries()))
}

// checkAdd looks at what Check and Add tell of a text, and at what is there then.
func checkAdd(t *testing.T, what string, s *view.Set, m *model, text string, want api.Errno) {
	t.Helper()
	wantId := event.Id(text)
	if want == api.ErrForm {
		wantId = ""
	}
	for range 2 {
		if id, errno := s.Check(text); id != wantId || errno != want {
			t.Errorf("%s: Check: %x, %d, not %x, %d", what, id, errno, wantId, want)
		}
	}
	checkAsModel(t, s, m)
	if id, errno := s.Add(text); id != wantId || errno != want {
		t.Errorf("%s: Add: %x, %d, not %x, %d", what, id, errno, wantId, want)
	}
	if want == api.OK {
		m.add(text)
	}
	checkAsModel(t, s, m)
}
