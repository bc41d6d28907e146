package wait_test

import (
	"math/rand"
	"slices"
	"testing"

	"palaver/api"
	"palaver/wait"
)

// model is a room told another way: what came stands in a list, and each that waits is held against it anew.
type model struct {
	places  int
	waiters []modelWaiter
}

type modelWaiter struct {
	got           wait.Got
	missing, came []string
}

func (x modelWaiter) lacks(id string) bool {
	return slices.Contains(x.missing, id) && !slices.Contains(x.came, id)
}

func (x modelWaiter) done() bool {
	return !slices.ContainsFunc(x.missing, x.lacks)
}

func (m *model) has(id string) bool {
	return slices.ContainsFunc(m.waiters, func(x modelWaiter) bool { return x.got.Id == id })
}

func (m *model) put(id, text string, missing []string) api.Errno {
	switch {
	case len(missing) == 0:
		return api.ErrArg
	case m.has(id):
		return api.ErrTwice
	case len(m.waiters) == m.places:
		return api.ErrBusy
	}
	m.waiters = append(m.waiters, modelWaiter{wait.Got{Id: id, Text: text}, missing, nil})
	return api.OK
}

func (m *model) come(id string) []wait.Got {
	var out []wait.Got
	for i := 0; i < len(m.waiters); i++ {
		x := &m.waiters[i]
		x.came = append(x.came, id)
		if x.done() {
			out = append(out, x.got)
			m.waiters = append(m.waiters[:i:i], m.waiters[i+1:]...)
			i--
		}
	}
	return out
}

func (m *model) drop(id string) bool {
	for i, x := range m.waiters {
		if x.got.Id == id {
			m.waiters = append(m.waiters[:i:i], m.waiters[i+1:]...)
			return true
		}
	}
	return false
}

// missing goes through all ids that may be, in their order.
func (m *model) missing() []string {
	var out []string
	for _, id := range ids {
		if !m.has(id) && slices.ContainsFunc(m.waiters, func(x modelWaiter) bool { return x.lacks(id) }) {
			out = append(out, id)
		}
	}
	return out
}

// ids rise.
var ids = []string{"", "\x00", "A", "a", "aa", "b", "c", "\xff"}

func anyId(r *rand.Rand) string {
	return ids[r.Intn(len(ids))]
}

// step does one thing, chosen by chance, to a room and to its model.
func step(t *testing.T, r *rand.Rand, w *wait.Wait, m *model) {
	t.Helper()
	id := anyId(r)
	switch r.Intn(8) {
	case 0, 1, 2, 3:
		var missing []string
		for range r.Intn(5) {
			missing = append(missing, anyId(r))
		}
		text := id + anyId(r)
		got, want := w.Put(id, text, missing), m.put(id, text, missing)
		if got != want {
			t.Errorf("Put(%q, %q, %q): %s, not %s", id, text, missing, nameOf(got), nameOf(want))
		}
	case 4:
		checkDrop(t, w, id, m.drop(id))
	default:
		checkCome(t, w, id, m.come(id)...)
	}
}

// P13.1: any calls, one behind another.
func TestAnyCalls(t *testing.T) {
	for seed := range int64(300) {
		r := rand.New(rand.NewSource(seed))
		places := r.Intn(7)
		w, m := wait.New(places), &model{places: places}
		for range 200 {
			step(t, r, w, m)
			checkMissing(t, w, m.missing()...)
			if w.Len() != len(m.waiters) {
				t.Errorf("Len: %d, not %d", w.Len(), len(m.waiters))
			}
			for _, id := range ids {
				if w.Has(id) != m.has(id) {
					t.Errorf("Has(%q): %v", id, w.Has(id))
				}
			}
			if t.Failed() {
				t.Fatalf("with the seed %d", seed)
			}
		}
	}
}

// P13.2: in any order of what comes, each leaves by the last of those that it waited for.
func TestAnyOrder(t *testing.T) {
	for seed := range int64(200) {
		r := rand.New(rand.NewSource(seed))
		w := wait.New(300)
		waits := map[string][]string{}
		for i := range 1 + r.Intn(12) {
			id := "waiter " + string(rune('a'+i))
			for range 1 + r.Intn(4) {
				waits[id] = append(waits[id], anyId(r))
			}
			if errno := w.Put(id, id, waits[id]); errno != api.OK {
				t.Errorf("Put: %s", nameOf(errno))
			}
		}
		came := map[string]bool{}
		for _, at := range r.Perm(len(ids)) {
			came[ids[at]] = true
			for _, left := range w.Come(ids[at]) {
				if slices.ContainsFunc(waits[left.Id], func(id string) bool { return !came[id] }) {
					t.Errorf("%q left, and waits still", left.Id)
				}
				delete(waits, left.Id)
			}
			for id, missing := range waits {
				if !slices.ContainsFunc(missing, func(id string) bool { return !came[id] }) || !w.Has(id) {
					t.Errorf("%q waits: %v, for %q", id, w.Has(id), missing)
				}
			}
		}
		if len(waits) > 0 || w.Len() > 0 {
			t.Errorf("%d wait still, or %d", w.Len(), len(waits))
		}
		if t.Failed() {
			t.Fatalf("with the seed %d", seed)
		}
	}
}
