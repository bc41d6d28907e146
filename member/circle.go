package member

import (
	"cmp"
	"iter"
	"slices"
)

// circle is some good entries of a set, with each the good ones of its past, so the root is always among them.
type circle struct {
	*set
	inside places
	ranks  map[string]int // each good entry's author has one, as it was added in that one's past
	held   []int          // the Removes that hold
}

func newCircle(s *set, inside places) *circle {
	c := &circle{set: s, inside: inside, ranks: map[string]int{}}
	for key := range c.keys() {
		c.ranks[key] = len(c.ranks)
	}
	c.findHeld()
	return c
}

// keys goes through the founder and all keys that are added, by rising rank.
func (c *circle) keys() iter.Seq[string] {
	return func(yield func(string) bool) {
		founder := c.entries[c.root].Author
		if !yield(founder) {
			return
		}
		told := map[string]struct{}{founder: {}}
		for _, i := range c.adds {
			key := c.entries[i].Body
			if _, twice := told[key]; twice || !c.inside.has(i) {
				continue
			}
			told[key] = struct{}{}
			if !yield(key) {
				return
			}
		}
	}
}

// rank is that of an entry's author.
func (c *circle) rank(i int) int {
	return c.ranks[c.entries[i].Author]
}

// findHeld goes by the authors' ranks: whether a Remove holds hangs on those of lower ranks alone.
func (c *circle) findHeld() {
	var removes []int
	for _, i := range c.removes {
		if c.inside.has(i) {
			removes = append(removes, i)
		}
	}
	slices.SortFunc(removes, func(i, j int) int { return cmp.Compare(c.rank(i), c.rank(j)) })
	for _, i := range removes {
		if c.holds(i) {
			c.held = append(c.held, i)
		}
	}
}

// holds tells of an entry inside.
func (c *circle) holds(i int) bool {
	return !slices.ContainsFunc(c.held, func(remove int) bool {
		return c.removesKey(remove, c.entries[i].Author) && c.rank(remove) < c.rank(i) && c.beside(remove, i)
	})
}

func (c *circle) removesKey(remove int, key string) bool {
	return c.entries[remove].Body == key
}

func (c *circle) hasMember(key string) bool {
	if c.entries[c.root].Author == key && c.lasts(c.root, key) {
		return true
	}
	return slices.ContainsFunc(c.adds, func(i int) bool {
		return c.inside.has(i) && c.entries[i].Body == key && c.holds(i) && c.lasts(i, key)
	})
}

// lasts tells whether all that remove a key came ahead of what made it a member.
func (c *circle) lasts(i int, key string) bool {
	return !slices.ContainsFunc(c.held, func(remove int) bool {
		return c.removesKey(remove, key) && !c.pasts[i].has(remove)
	})
}
