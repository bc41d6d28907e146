package room_test

import (
	"math/rand"
	"slices"
	"testing"

	"palaver/api"
	"palaver/member"
	"palaver/room"
)

// pastOf is the entries of a closed list that some ids and their pasts are, in the list's order.
func pastOf(l []api.Entry, ids []string) []api.Entry {
	wanted := map[string]bool{}
	for _, id := range ids {
		wanted[id] = true
	}
	var out []api.Entry
	for i := len(l) - 1; i >= 0; i-- {
		if wanted[l[i].Id] {
			out = append(out, l[i])
			for _, parent := range l[i].Parents {
				wanted[parent] = true
			}
		}
	}
	slices.Reverse(out)
	return out
}

// modelOrder looks through all entries for each that it tells.
func modelOrder(l []api.Entry) []api.Entry {
	told := map[string]bool{}
	untold := func(id string) bool { return !told[id] }
	var out []api.Entry
	for range l {
		lowest := -1
		for i, e := range l {
			if told[e.Id] || slices.ContainsFunc(e.Parents, untold) {
				continue
			}
			if lowest < 0 || e.Id < l[lowest].Id {
				lowest = i
			}
		}
		told[l[lowest].Id] = true
		out = append(out, l[lowest])
	}
	return out
}

// modelLook tells the chapter's words one by one, of closed entries that have the root "root".
func modelLook(l []api.Entry) api.View {
	holds := map[string]bool{}
	for i, is := range member.Holds("root", l) {
		holds[l[i].Id] = is
	}
	v := api.View{Members: member.Members("root", l)}
	ordered := modelOrder(l)
	for _, e := range ordered {
		if e.Id == "root" {
			v.Name = e.Body
		}
		if e.Kind == api.Post && holds[e.Id] {
			v.Posts = append(v.Posts, api.Said{Author: e.Author, Text: e.Body})
		}
	}
	slices.Reverse(ordered)
	last := slices.IndexFunc(ordered, func(e api.Entry) bool { return e.Kind == api.Topic && holds[e.Id] })
	if last >= 0 {
		v.Topic = ordered[last].Body
	}
	return v
}

// modelMay asks who is a member of what an entry will have in its past.
func modelMay(l []api.Entry, e api.Entry) bool {
	if e.Kind == api.Create {
		return e.Id == "root" && member.Closed(append(slices.Clone(l), e))
	}
	past := pastOf(l, e.Parents)
	return member.Closed(append(slices.Clone(l), e)) && slices.Contains(member.Members("root", past), e.Author)
}

var anyKeys = []string{"d", "c", "b", "a", ""}

var anyKinds = []int{
	api.Add, api.Add, api.Remove, api.Remove, api.Remove, api.Post, api.Post, api.Post, api.Topic, api.Topic, api.Create, 0, 6,
}

func anyEntry(r *rand.Rand, keys []string, id string, ahead []api.Entry) api.Entry {
	e := api.Entry{Id: id, Kind: anyKinds[r.Intn(len(anyKinds))], Author: keys[min(r.Intn(len(keys)), r.Intn(len(keys)))]}
	switch e.Kind {
	case api.Add, api.Remove:
		e.Body = keys[r.Intn(len(keys))]
	default:
		e.Body = string([]byte{byte(r.Intn(256)), byte(r.Intn(256))})
	}
	if len(ahead) > 0 && r.Intn(20) > 0 {
		for range 1 + min(r.Intn(3), r.Intn(3)) {
			e.Parents = append(e.Parents, ahead[len(ahead)-1-r.Intn(min(len(ahead), 6))].Id)
		}
	}
	return e
}

// anyRoom is closed entries with the root "root", which mostly stands first, and ahead of some Adds by the founder.
func anyRoom(r *rand.Rand) []api.Entry {
	keys := slices.Clone(anyKeys)
	r.Shuffle(len(keys), func(i, j int) { keys[i], keys[j] = keys[j], keys[i] })
	root := max(0, r.Intn(20)-16)
	adds := 1 + r.Intn(4)
	ids := r.Perm(200)
	var l []api.Entry
	for i := range root + adds + 2 + r.Intn(18) {
		e := anyEntry(r, keys, string([]byte{byte(ids[i])}), l)
		if i == root {
			e.Id, e.Kind, e.Author = "root", api.Create, keys[0]
		} else if i > root && i <= root+adds {
			e.Kind, e.Author, e.Body = api.Add, keys[0], keys[i-root]
		}
		l = append(l, e)
	}
	return l
}

// shuffled is the same entries in another order that is closed, with their parents in any order.
func shuffled(r *rand.Rand, l []api.Entry) []api.Entry {
	there := map[string]bool{}
	lacks := func(id string) bool { return !there[id] }
	var out []api.Entry
	for len(out) < len(l) {
		e := l[r.Intn(len(l))]
		if there[e.Id] || slices.ContainsFunc(e.Parents, lacks) {
			continue
		}
		there[e.Id] = true
		e.Parents = slices.Clone(e.Parents)
		r.Shuffle(len(e.Parents), func(i, j int) { e.Parents[i], e.Parents[j] = e.Parents[j], e.Parents[i] })
		out = append(out, e)
	}
	return out
}

func heads(l []api.Entry) []string {
	var out []string
	for _, e := range l {
		if !slices.ContainsFunc(l, func(child api.Entry) bool { return slices.Contains(child.Parents, e.Id) }) {
			out = append(out, e.Id)
		}
	}
	return out
}

// forAnyRooms shows the room at which a check failed.
func forAnyRooms(t *testing.T, seed int64, count int, check func(r *rand.Rand, l []api.Entry)) {
	t.Helper()
	r := rand.New(rand.NewSource(seed))
	for range count {
		l := anyRoom(r)
		check(r, l)
		if t.Failed() {
			for _, e := range l {
				t.Logf("%q %d %q %q %q", e.Id, e.Kind, e.Author, e.Parents, e.Body)
			}
			t.FailNow()
		}
	}
}

// P16.1
func TestAnyLooks(t *testing.T) {
	posts, topics, hidden := 0, 0, 0
	forAnyRooms(t, 161, 3000, func(r *rand.Rand, l []api.Entry) {
		want := modelLook(l)
		checkLook(t, "any room", "root", l, want)
		posts += len(want.Posts)
		if want.Topic != "" {
			topics++
		}
		for i, holds := range member.Holds("root", l) {
			if !holds && (l[i].Kind == api.Post || l[i].Kind == api.Topic) {
				hidden++
			}
		}
	})
	if posts < 3000 || topics < 1000 || hidden < 3000 {
		t.Errorf("the rooms show too little: %d posts, %d topics, %d of these that don't count", posts, topics, hidden)
	}
}

// P16.1: any list, mostly one that isn't closed, or lacks the root.
func TestAnyLists(t *testing.T) {
	forAnyRooms(t, 162, 1500, func(r *rand.Rand, l []api.Entry) {
		l = slices.Clone(l)
		r.Shuffle(len(l), func(i, j int) { l[i], l[j] = l[j], l[i] })
		l = l[:r.Intn(len(l)+1)]
		there := slices.ContainsFunc(l, func(e api.Entry) bool { return e.Id == "root" })
		want := api.View{}
		if member.Closed(l) && there {
			want = modelLook(l)
		}
		checkLook(t, "any list", "root", l, want)
	})
}

// P16.1: of any entry behind any others; some of its parents aren't there, or its id is there already.
func TestAnyMay(t *testing.T) {
	yes, no := 0, 0
	forAnyRooms(t, 163, 1500, func(r *rand.Rand, l []api.Entry) {
		ahead := l[:r.Intn(len(l)+1)]
		for _, e := range append(l[len(ahead):len(l):len(l)], anyEntry(r, anyKeys, "new", l), l[r.Intn(len(l))]) {
			want := modelMay(ahead, e)
			checkMay(t, "any entry", "root", ahead, e, want)
			if want {
				yes++
			} else {
				no++
			}
		}
	})
	if yes < 1000 || no < 1000 {
		t.Errorf("the entries show too little: %d may be, %d may not", yes, no)
	}
}

// P16.2: the list's order counts for nothing, the parents' neither.
func TestTheOrderCountsForNothing(t *testing.T) {
	forAnyRooms(t, 164, 800, func(r *rand.Rand, l []api.Entry) {
		want := room.Look("root", l)
		e := anyEntry(r, anyKeys, "new", l)
		may := room.May("root", l, e)
		for range 3 {
			other := shuffled(r, l)
			checkLook(t, "shuffled", "root", other, want)
			checkMay(t, "shuffled", "root", other, e, may)
		}
	})
}

// P16.2: entries that aren't good change nothing, wherever they stand.
func TestWhatIsNotGoodChangesNothing(t *testing.T) {
	dropped := 0
	forAnyRooms(t, 165, 1500, func(r *rand.Rand, l []api.Entry) {
		want := room.Look("root", l)
		for {
			good := member.Good("root", l)
			ends := heads(l)
			// What has others behind it can't be taken from among them.
			i := slices.IndexFunc(l, func(e api.Entry) bool {
				return slices.Contains(ends, e.Id) && !good[slices.IndexFunc(l, func(x api.Entry) bool { return x.Id == e.Id })]
			})
			if i < 0 {
				return
			}
			l = slices.Delete(slices.Clone(l), i, i+1)
			checkLook(t, "without one that isn't good", "root", l, want)
			dropped++
		}
	})
	if dropped < 3000 {
		t.Errorf("the rooms show too little: %d entries that aren't good", dropped)
	}
}

// P16.2: what an entry says that isn't good counts for nothing.
func TestWhatIsSaidByNobodyChangesNothing(t *testing.T) {
	forAnyRooms(t, 166, 1500, func(r *rand.Rand, l []api.Entry) {
		want := room.Look("root", l)
		l = slices.Clone(l)
		for i, good := range member.Good("root", l) {
			if !good && l[i].Kind != api.Create {
				l[i].Kind, l[i].Body = anyKinds[r.Intn(len(anyKinds))], anyKeys[r.Intn(len(anyKeys))]
			}
		}
		checkLook(t, "others said by nobody", "root", l, want)
	})
}

// P16.2: what is added behind all others, by no member, changes nothing.
func TestWhatNobodyAddsChangesNothing(t *testing.T) {
	forAnyRooms(t, 167, 1000, func(r *rand.Rand, l []api.Entry) {
		want := room.Look("root", l)
		for i := range 4 {
			e := anyEntry(r, anyKeys, "new"+string([]byte{byte(i)}), nil)
			e.Parents = heads(l)
			if slices.Contains(want.Members, e.Author) {
				continue
			}
			checkMay(t, "by no member", "root", l, e, false)
			l = append(slices.Clone(l), e)
			checkLook(t, "with one by no member", "root", l, want)
		}
	})
}

// P16.1, P16.2: who is a member of all may say something behind all.
func TestMembersMay(t *testing.T) {
	forAnyRooms(t, 168, 1000, func(r *rand.Rand, l []api.Entry) {
		members := room.Look("root", l).Members
		for _, key := range anyKeys {
			e := api.Entry{Id: "new", Kind: api.Post, Author: key, Parents: heads(l)}
			checkMay(t, "behind all", "root", l, e, slices.Contains(members, key))
		}
	})
}
