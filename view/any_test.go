package view_test

import (
	"math/rand"
	"slices"
	"strconv"
	"strings"
	"testing"

	"palaver/api"
	"palaver/event"
	"palaver/member"
	"palaver/view"
)

// anyHall is a room and what is said there and by others, by the events' names, each behind its parents.
func anyHall(t *testing.T, r *rand.Rand) (*hall, []string) {
	t.Helper()
	authors := []string{"a", "b", "c", "d"}
	r.Shuffle(len(authors), func(i, j int) { authors[i], authors[j] = authors[j], authors[i] })
	founder := authors[0]
	h := newHall(t, 3, "r create "+founder+" - name\nx1 add "+founder+" r "+authors[1]+"\nx2 add "+founder+" x1 "+authors[2])
	names := []string{"r", "x1", "x2"}
	kinds := []string{"post", "post", "topic", "topic", "add", "remove", "remove", "create"}
	for i := range 8 + r.Intn(14) {
		author := authors[min(r.Intn(4), r.Intn(4))]
		if h.key(author).Left() == 0 {
			continue
		}
		name, kind, body := "e"+strconv.Itoa(i), kinds[r.Intn(len(kinds))], strconv.Itoa(i)
		if kind == "add" || kind == "remove" {
			body = authors[r.Intn(4)]
		}
		h.say(name + " " + kind + " " + author + " " + anyParents(r, kind, names) + " " + body)
		names = append(names, name)
	}
	return h, names
}

func anyParents(r *rand.Rand, kind string, names []string) string {
	if kind == "create" {
		return "-"
	}
	var out []string
	for range 1 + r.Intn(3) {
		if name := names[len(names)-1-r.Intn(min(len(names), 6))]; !slices.Contains(out, name) {
			out = append(out, name)
		}
	}
	return strings.Join(out, ",")
}

// welcome is the names of the events that may be there: which are good, and their pasts too.
func welcome(h *hall, names []string) map[string]bool {
	all := &model{room: h.id("r")}
	for _, name := range names {
		all.add(h.texts[name])
	}
	entries := all.entries()
	there := map[string]bool{}
	out := map[string]bool{}
	for i, good := range member.Good(all.room, entries) {
		lacks := func(id string) bool { return !there[id] }
		if good && !slices.ContainsFunc(entries[i].Parents, lacks) {
			there[entries[i].Id], out[names[i]] = true, true
		}
	}
	return out
}

// wanted is what an Add would answer.
func wanted(h *hall, s *view.Set, name string, may map[string]bool) api.Errno {
	e, _ := event.Decode(h.texts[name])
	lacks := func(id string) bool { return !s.Has(id) }
	switch {
	case s.Has(h.id(name)):
		return api.ErrTwice
	case slices.ContainsFunc(e.Parents, lacks):
		return api.ErrMissing
	case !may[name]:
		return api.ErrDenied
	}
	return api.OK
}

// anyName is often one of those that are to come next.
func anyName(r *rand.Rand, h *hall, s *view.Set, names []string, may map[string]bool) string {
	if r.Intn(3) == 0 {
		return names[r.Intn(len(names))]
	}
	awaited := slices.DeleteFunc(slices.Clone(names), func(name string) bool { return !may[name] || s.Has(h.id(name)) })
	return awaited[r.Intn(min(len(awaited), 4))]
}

// noise is bytes that a set refuses, made of some that it may not.
func noise(r *rand.Rand, text string) string {
	b := []byte(text)
	switch r.Intn(3) {
	case 0:
		return text[:r.Intn(len(text))]
	case 1:
		return text + "\x00"
	}
	// The signature is most of an event's bytes.
	b[len(b)-1-r.Intn(2000)] ^= 1 << r.Intn(8)
	return string(b)
}

// P17.1, P17.3: events in any order, some again and again, some too early, and other bytes among them.
func TestAnyOrder(t *testing.T) {
	there, denied := 0, 0
	for seed := range int64(25) {
		r := rand.New(rand.NewSource(seed))
		h, names := anyHall(t, r)
		may := welcome(h, names)
		var sets []*view.Set
		for range 3 {
			s, m := h.set("")
			for s.Len() < len(may) {
				name := anyName(r, h, s, names, may)
				checkAdd(t, name, s, m, h.texts[name], wanted(h, s, name, may))
				if _, errno := s.Add(noise(r, h.texts[name])); errno != api.ErrForm && errno != api.ErrSign {
					t.Errorf("noise: %d", errno)
				}
				if t.Failed() {
					t.Fatalf("with the seed %d", seed)
				}
			}
			checkBehindPasts(t, s)
			sets = append(sets, s)
		}
		for _, s := range sets[1:] {
			checkSame(t, s, sets[0])
		}
		if t.Failed() {
			t.Fatalf("with the seed %d", seed)
		}
		there += len(may)
		denied += len(names) - len(may)
	}
	if there < 150 || denied < 150 {
		t.Errorf("the rooms show too little: %d events that may be there, %d that may not", there, denied)
	}
}

// checkBehindPasts looks whether no event stands ahead of one of its past.
func checkBehindPasts(t *testing.T, s *view.Set) {
	t.Helper()
	for what, ids := range map[string][]string{"Ids": s.Ids(), "Order": s.Order()} {
		for i, id := range ids {
			e, _ := event.Decode(s.Bytes(id))
			for _, parent := range e.Parents {
				if !slices.Contains(ids[:i], parent) {
					t.Errorf("%s: %x stands ahead of its parent", what, id)
				}
			}
		}
	}
}

func checkSame(t *testing.T, a, b *view.Set) {
	t.Helper()
	checkList(t, "Order", a.Order(), b.Order())
	checkList(t, "Heads", a.Heads(), b.Heads())
	checkList(t, "Ids", slices.Sorted(slices.Values(a.Ids())), slices.Sorted(slices.Values(b.Ids())))
	checkLook(t, a, b.Look())
}
