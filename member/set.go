package member

import (
	"cmp"
	"slices"

	"palaver/api"
)

// set is entries that are closed, and have the root. They are told by their places in the list.
type set struct {
	entries []api.Entry
	root    int
	pasts   []places
	adds    []int // by the count of their pasts, then by their ids: by the ranks that they give, whatever else is there
	removes []int
	good    places
}

// newSet is nil of entries that aren't closed, or don't have the root.
func newSet(room string, l []api.Entry) *set {
	if !Closed(l) {
		return nil
	}
	root := slices.IndexFunc(l, func(e api.Entry) bool { return e.Id == room && e.Kind == api.Create })
	if root < 0 {
		return nil
	}
	s := &set{entries: l, root: root}
	s.gatherPasts()
	s.sortKinds()
	s.judge()
	return s
}

func (s *set) gatherPasts() {
	at := map[string]int{}
	for i, e := range s.entries {
		var past places
		for _, parent := range e.Parents {
			past.put(at[parent])
			past.putAll(s.pasts[at[parent]])
		}
		s.pasts = append(s.pasts, past)
		at[e.Id] = i
	}
}

func (s *set) sortKinds() {
	for i, e := range s.entries {
		switch e.Kind {
		case api.Add:
			s.adds = append(s.adds, i)
		case api.Remove:
			s.removes = append(s.removes, i)
		}
	}
	slices.SortFunc(s.adds, func(i, j int) int {
		return cmp.Or(cmp.Compare(s.pasts[i].count(), s.pasts[j].count()), cmp.Compare(s.entries[i].Id, s.entries[j].Id))
	})
}

// judge finds out which entries are good. The list's order is enough for it: an entry's past stands ahead of it.
func (s *set) judge() {
	for i := range s.entries {
		if s.isGood(i) {
			s.good.put(i)
		}
	}
}

func (s *set) isGood(i int) bool {
	if i == s.root {
		return true
	}
	if s.entries[i].Kind == api.Create || !s.pasts[i].has(s.root) {
		return false
	}
	c := newCircle(s, s.pasts[i].both(s.good))
	return c.hasMember(s.entries[i].Author)
}

func (s *set) beside(i, j int) bool {
	return !s.pasts[i].has(j) && !s.pasts[j].has(i)
}
