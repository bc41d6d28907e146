package dag_test

import (
	"math/rand"
	"slices"
	"strings"
	"testing"

	"palaver/dag"
)

// model is a dag told another way: by a table of who is whose parent, and one of who is ahead of whom.
type model struct {
	ids           []string
	parent, ahead [][]bool // [i][j]: is j a parent of i, is it in its past?
}

// anyModel has parents of lower places alone; the ids don't tell the places.
func anyModel(r *rand.Rand, n int) *model {
	m := &model{}
	for i := range n {
		m.ids = append(m.ids, m.newId(r))
		m.parent = append(m.parent, make([]bool, n))
		m.ahead = append(m.ahead, make([]bool, n))
		for range r.Intn(4) {
			if i == 0 {
				continue
			}
			j := r.Intn(i)
			m.parent[i][j], m.ahead[i][j] = true, true
			for k := range j {
				m.ahead[i][k] = m.ahead[i][k] || m.ahead[j][k]
			}
		}
	}
	return m
}

func (m *model) newId(r *rand.Rand) string {
	for {
		b := make([]byte, 1+r.Intn(3))
		if r.Intn(8) == 0 {
			b = make([]byte, 64)
		}
		for i := range b {
			b[i] = byte(r.Intn(256))
		}
		if !slices.Contains(m.ids, string(b)) {
			return string(b)
		}
	}
}

// lacks tells whether a parent isn't among those that are there.
func (m *model) lacks(i int, there []bool) bool {
	for j, is := range m.parent[i] {
		if is && !there[j] {
			return true
		}
	}
	return false
}

// anyOrder is all places, each behind its parents', by chance.
func (m *model) anyOrder(r *rand.Rand) []int {
	there := make([]bool, len(m.ids))
	var out []int
	for len(out) < len(m.ids) {
		i := r.Intn(len(m.ids))
		if !there[i] && !m.lacks(i, there) {
			there[i] = true
			out = append(out, i)
		}
	}
	return out
}

// anyParents is the parents' ids in any order, some of them twice.
func (m *model) anyParents(r *rand.Rand, i int) []string {
	out := m.pick(m.parent[i])
	for range r.Intn(3) {
		if len(out) > 0 {
			out = append(out, out[r.Intn(len(out))])
		}
	}
	r.Shuffle(len(out), func(a, b int) { out[a], out[b] = out[b], out[a] })
	return out
}

// pick is the ids of some places, rising.
func (m *model) pick(row []bool) []string {
	var out []string
	for j, is := range row {
		if is {
			out = append(out, m.ids[j])
		}
	}
	slices.Sort(out)
	return out
}

func (m *model) heads() []string {
	row := make([]bool, len(m.ids))
	for j := range m.ids {
		row[j] = !slices.ContainsFunc(m.parent, func(parents []bool) bool { return parents[j] })
	}
	return m.pick(row)
}

// order looks through all ids for each that it tells.
func (m *model) order() []string {
	there := make([]bool, len(m.ids))
	var out []string
	for range m.ids {
		lowest := -1
		for i, id := range m.ids {
			if !there[i] && !m.lacks(i, there) && (lowest < 0 || strings.Compare(id, m.ids[lowest]) < 0) {
				lowest = i
			}
		}
		there[lowest] = true
		out = append(out, m.ids[lowest])
	}
	return out
}

func checkAsModel(t *testing.T, d *dag.Dag, m *model) {
	t.Helper()
	if d.Len() != len(m.ids) {
		t.Errorf("Len: %d, not %d", d.Len(), len(m.ids))
	}
	checkList(t, "Heads", d.Heads(), m.heads())
	checkList(t, "Order", d.Order(), m.order())
	for i, id := range m.ids {
		checkList(t, "Parents", d.Parents(id), m.pick(m.parent[i]))
		checkList(t, "Past", d.Past(id), m.pick(m.ahead[i]))
		for j, other := range m.ids {
			checkAhead(t, d, other, id, m.ahead[i][j])
		}
	}
}
