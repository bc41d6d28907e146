package member_test

import (
	"cmp"
	"math/rand"
	"slices"
	"testing"

	"palaver/api"
	"palaver/member"
)

// model tells the chapter's words as they stand: by sets of ids, each question asked anew.
type model struct {
	root    string
	entries map[string]api.Entry
	pasts   map[string]map[string]bool
	good    map[string]bool
}

func newModel(room string, l []api.Entry) *model {
	m := &model{room, map[string]api.Entry{}, map[string]map[string]bool{}, map[string]bool{}}
	for _, e := range l {
		m.entries[e.Id] = e
		past := map[string]bool{}
		for _, parent := range e.Parents {
			past[parent] = true
			for id := range m.pasts[parent] {
				past[id] = true
			}
		}
		m.pasts[e.Id] = past
	}
	for _, e := range l {
		m.good[e.Id] = m.isGood(e)
	}
	return m
}

func (m *model) isGood(e api.Entry) bool {
	past := m.pasts[e.Id]
	return e.Id == m.root || e.Kind != api.Create && past[m.root] && m.isMember(past, e.Author)
}

// rank has the class 0 of the founder, 1 of those that are added, 2 of others; then the least Add's count and id.
type rank struct {
	class, count int
	id           string
}

func compareRanks(a, b rank) int {
	return cmp.Or(cmp.Compare(a.class, b.class), cmp.Compare(a.count, b.count), cmp.Compare(a.id, b.id))
}

func (m *model) rank(set map[string]bool, key string) rank {
	if key == m.entries[m.root].Author {
		return rank{}
	}
	least := rank{class: 2}
	for id := range set {
		if e := m.entries[id]; m.good[id] && e.Kind == api.Add && e.Body == key {
			least = slices.MinFunc([]rank{least, {1, len(m.pasts[id]), id}}, compareRanks)
		}
	}
	return least
}

func (m *model) holds(set map[string]bool, id string) bool {
	author := m.entries[id].Author
	for other := range set {
		e := m.entries[other]
		if e.Kind == api.Remove && m.good[other] && e.Body == author &&
			other != id && !m.pasts[id][other] && !m.pasts[other][id] &&
			compareRanks(m.rank(set, e.Author), m.rank(set, author)) < 0 && m.holds(set, other) {
			return false
		}
	}
	return m.good[id]
}

func (m *model) isMember(set map[string]bool, key string) bool {
	for id := range set {
		e := m.entries[id]
		added := e.Kind == api.Add && e.Body == key && m.holds(set, id)
		if (added || id == m.root && e.Author == key) && m.hasRemoves(set, id, key) {
			return true
		}
	}
	return false
}

// hasRemoves tells whether all that remove the key are in the entry's past.
func (m *model) hasRemoves(set map[string]bool, id, key string) bool {
	for other := range set {
		if e := m.entries[other]; e.Kind == api.Remove && e.Body == key && m.holds(set, other) && !m.pasts[id][other] {
			return false
		}
	}
	return true
}

// goodOnes is the set that Holds and Members tell of.
func (m *model) goodOnes() map[string]bool {
	set := map[string]bool{}
	for id, good := range m.good {
		if good {
			set[id] = true
		}
	}
	return set
}

func (m *model) members() []string {
	set := m.goodOnes()
	var out []string
	for _, key := range anyKeys {
		if m.isMember(set, key) {
			out = append(out, key)
		}
	}
	slices.SortFunc(out, func(a, b string) int { return compareRanks(m.rank(set, a), m.rank(set, b)) })
	return out
}

var anyKeys = []string{"e", "d", "c", "b", "a", ""}

// anyKey is more often one of the first of some keys.
func anyKey(r *rand.Rand, keys []string) string {
	return keys[min(r.Intn(len(keys)), r.Intn(len(keys)))]
}

func anyKind(r *rand.Rand) int {
	kinds := []int{
		api.Add, api.Add, api.Add, api.Remove, api.Remove, api.Remove, api.Remove, api.Remove, api.Remove,
		api.Post, api.Post, api.Post, api.Topic, api.Create, 0, 6, -1,
	}
	return kinds[r.Intn(len(kinds))]
}

// anyRoom is closed entries with the root "root", which mostly stands first, and ahead of some Adds by the founder.
func anyRoom(r *rand.Rand) []api.Entry {
	keys := slices.Clone(anyKeys)
	r.Shuffle(len(keys), func(i, j int) { keys[i], keys[j] = keys[j], keys[i] })
	keys = keys[:3+r.Intn(4)]
	root := max(0, r.Intn(20)-16)
	adds := 1 + r.Intn(5)
	ids := r.Perm(200)
	var l []api.Entry
	for i := range root + adds + 2 + r.Intn(14) {
		e := api.Entry{Id: string([]byte{byte(ids[i])}), Kind: anyKind(r), Author: anyKey(r, keys), Body: keys[r.Intn(len(keys))]}
		if i == root {
			e.Id, e.Kind, e.Author = "root", api.Create, keys[0]
		} else if i > root && i <= root+adds {
			e.Kind, e.Author = api.Add, keys[0]
		}
		if i != root || r.Intn(2) == 0 {
			e.Parents = anyParents(r, l)
		}
		l = append(l, e)
	}
	return l
}

// anyParents is mostly one to three of the last ones, and some of them twice.
func anyParents(r *rand.Rand, l []api.Entry) []string {
	if len(l) == 0 || r.Intn(30) == 0 {
		return nil
	}
	var out []string
	for range 1 + min(r.Intn(3), r.Intn(3)) {
		out = append(out, l[len(l)-1-r.Intn(min(len(l), 6))].Id)
	}
	return out
}

// shuffled is the same entries in another order that is closed, with their parents in any order.
func shuffled(r *rand.Rand, l []api.Entry) []api.Entry {
	there := map[string]bool{}
	lacks := func(id string) bool { return !there[id] }
	var out []api.Entry
	for len(out) < len(l) {
		e := l[r.Intn(len(l))]
		if there[e.Id] || slices.ContainsFunc(e.Parents, lacks) {
			continue
		}
		there[e.Id] = true
		e.Parents = slices.Clone(e.Parents)
		r.Shuffle(len(e.Parents), func(i, j int) { e.Parents[i], e.Parents[j] = e.Parents[j], e.Parents[i] })
		out = append(out, e)
	}
	return out
}

// pick is those entries of a list whose ids are in a set.
func pick(l []api.Entry, set map[string]bool) []api.Entry {
	return slices.DeleteFunc(slices.Clone(l), func(e api.Entry) bool { return !set[e.Id] })
}

func checkAsModel(t *testing.T, l []api.Entry, m *model) {
	t.Helper()
	good, holds, set := member.Good("root", l), member.Holds("root", l), m.goodOnes()
	if len(good) != len(l) || len(holds) != len(l) {
		t.Fatalf("of %d entries: Good %v, Holds %v", len(l), good, holds)
	}
	for i, e := range l {
		if good[i] != m.good[e.Id] {
			t.Errorf("%q is good: %v", e.Id, good[i])
		}
		if want := set[e.Id] && m.holds(set, e.Id); holds[i] != want {
			t.Errorf("%q holds: %v", e.Id, holds[i])
		}
	}
	checkList(t, "members", member.Members("root", l), m.members())
}

// forAnyRooms shows the room at which a check failed.
func forAnyRooms(t *testing.T, seed int64, count int, check func(r *rand.Rand, l []api.Entry)) {
	t.Helper()
	r := rand.New(rand.NewSource(seed))
	for range count {
		l := anyRoom(r)
		check(r, l)
		if t.Failed() {
			for _, e := range l {
				t.Logf("%q %d %q %q %q", e.Id, e.Kind, e.Author, e.Parents, e.Body)
			}
			t.FailNow()
		}
	}
}

// P15.1
func TestAnyRooms(t *testing.T) {
	undone, refused, crowds := 0, 0, 0
	forAnyRooms(t, 151, 4000, func(r *rand.Rand, l []api.Entry) {
		if !member.Closed(l) {
			t.Error("not closed")
		}
		m := newModel("root", l)
		checkAsModel(t, l, m)
		set := m.goodOnes()
		for _, e := range l {
			if !m.good[e.Id] {
				refused++
			} else if !m.holds(set, e.Id) {
				undone++
			}
		}
		if len(m.members()) > 2 {
			crowds++
		}
	})
	if undone < 500 || refused < 5000 || crowds < 500 {
		t.Errorf("the rooms show too little: %d entries that don't hold, %d that aren't good, %d rooms of many members", undone, refused, crowds)
	}
}

// P15.1: any list, mostly one that isn't closed.
func TestAnyLists(t *testing.T) {
	forAnyRooms(t, 152, 2000, func(r *rand.Rand, l []api.Entry) {
		l = slices.Clone(l)
		r.Shuffle(len(l), func(i, j int) { l[i], l[j] = l[j], l[i] })
		l = l[:r.Intn(len(l)+1)]
		there := map[string]bool{}
		closed := true
		for _, e := range l {
			for _, parent := range e.Parents {
				closed = closed && there[parent]
			}
			there[e.Id] = true
		}
		checkClosed(t, "any list", l, closed)
		if closed && there["root"] {
			checkAsModel(t, l, newModel("root", l))
		} else {
			checkNothing(t, "any list", "root", l)
		}
	})
}

// P15.2: the order of the list counts for nothing.
func TestTheOrderCountsForNothing(t *testing.T) {
	forAnyRooms(t, 153, 800, func(r *rand.Rand, l []api.Entry) {
		m := newModel("root", l)
		for range 4 {
			checkAsModel(t, shuffled(r, l), m)
		}
	})
}

// P15.2: whether an entry is good hangs on its past alone.
func TestGoodHangsOnThePastAlone(t *testing.T) {
	forAnyRooms(t, 154, 800, func(r *rand.Rand, l []api.Entry) {
		m := newModel("root", l)
		for i, good := range member.Good("root", l) {
			part := append(pick(l, m.pasts[l[i].Id]), l[i])
			alone := member.Good("root", part)
			if l[i].Id != "root" && !m.pasts[l[i].Id]["root"] {
				if good || len(alone) != 0 {
					t.Errorf("%q without the root: %v, and with its past alone: %v", l[i].Id, good, alone)
				}
			} else if len(alone) != len(part) || alone[len(part)-1] != good {
				t.Errorf("%q: %v, and with its past alone: %v", l[i].Id, good, alone)
			}
		}
	})
}

// P15.2: the founder's entries hold.
func TestTheFoundersEntriesHold(t *testing.T) {
	undone := 0
	forAnyRooms(t, 155, 1500, func(r *rand.Rand, l []api.Entry) {
		founder := newModel("root", l).entries["root"].Author
		good, holds := member.Good("root", l), member.Holds("root", l)
		for i, e := range l {
			if e.Author == founder && good[i] != holds[i] {
				t.Errorf("the founder's %q doesn't hold", e.Id)
			} else if good[i] && !holds[i] {
				undone++
			}
		}
	})
	if undone == 0 {
		t.Error("all entries hold")
	}
}

// P15.2: nobody who isn't a member of what an entry has in its past makes it good; who is does, but for a Create.
func TestMembersOfThePastMakeGood(t *testing.T) {
	forAnyRooms(t, 156, 800, func(r *rand.Rand, l []api.Entry) {
		m := newModel("root", l)
		for i, good := range member.Good("root", l) {
			e := l[i]
			is := slices.Contains(member.Members("root", pick(l, m.pasts[e.Id])), e.Author)
			if want := e.Id == "root" || e.Kind != api.Create && is; good != want {
				t.Errorf("%q by %q: %v", e.Id, e.Author, good)
			}
		}
	})
}
