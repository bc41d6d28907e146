package dag_test

import (
	"math/rand"
	"slices"
	"strconv"
	"strings"
	"testing"
	"unsafe"

	"palaver/api"
	"palaver/dag"
)

var errnoNames = []string{"OK", "ErrArg", "ErrForm", "ErrLong", "ErrSign", "ErrSpent", "ErrDisk", "ErrDenied", "ErrBusy", "ErrMissing", "ErrNone", "ErrTwice", "ErrOff"}

func nameOf(errno api.Errno) string {
	if errno < 0 || int(errno) >= len(errnoNames) {
		return "another number"
	}
	return errnoNames[errno]
}

func checkAdd(t *testing.T, d *dag.Dag, id string, parents []string, want api.Errno) {
	t.Helper()
	if got := d.Add(id, parents); got != want {
		t.Errorf("Add(%.80q, %.200q): %s, not %s", id, parents, nameOf(got), nameOf(want))
	}
}

func checkList(t *testing.T, what string, got, want []string) {
	t.Helper()
	if !slices.Equal(got, want) {
		t.Errorf("%s: %d ids %.300q, not %d %.300q", what, len(got), got, len(want), want)
	}
}

func checkAhead(t *testing.T, d *dag.Dag, a, b string, want bool) {
	t.Helper()
	if got := d.Ahead(a, b); got != want {
		t.Errorf("Ahead(%.80q, %.80q): %v", a, b, got)
	}
}

// entry is an id, and its parents' ids in one text.
type entry struct{ id, parents string }

func made(t *testing.T, entries ...entry) *dag.Dag {
	t.Helper()
	d := dag.New()
	for _, e := range entries {
		checkAdd(t, d, e.id, strings.Fields(e.parents), api.OK)
	}
	return d
}

// want is all that a dag tells of itself; a list is one text.
type want struct {
	heads, order string
	parents      map[string]string
	pasts        map[string]string
}

func checkAll(t *testing.T, d *dag.Dag, w want) {
	t.Helper()
	ids := strings.Fields(w.order)
	if d.Len() != len(ids) {
		t.Errorf("Len: %d, not %d", d.Len(), len(ids))
	}
	checkList(t, "Heads", d.Heads(), strings.Fields(w.heads))
	checkList(t, "Order", d.Order(), ids)
	for _, id := range ids {
		if !d.Has(id) {
			t.Errorf("Has(%q): false", id)
		}
		past := strings.Fields(w.pasts[id])
		checkList(t, "Parents of "+id, d.Parents(id), strings.Fields(w.parents[id]))
		checkList(t, "Past of "+id, d.Past(id), past)
		for _, other := range ids {
			checkAhead(t, d, other, id, slices.Contains(past, other))
		}
	}
}

func checkNotThere(t *testing.T, d *dag.Dag, ids ...string) {
	t.Helper()
	for _, id := range ids {
		if d.Has(id) {
			t.Errorf("Has(%.80q): true", id)
		}
		checkList(t, "Parents", d.Parents(id), nil)
		checkList(t, "Past", d.Past(id), nil)
		checkAhead(t, d, id, id, false)
		for _, other := range d.Order() {
			checkAhead(t, d, id, other, false)
			checkAhead(t, d, other, id, false)
		}
	}
}

// P12.1, P12.2: the chapter's example.
func TestExample(t *testing.T) {
	w := want{
		heads: "d", order: "a b c d",
		parents: map[string]string{"b": "a", "c": "a", "d": "b c"},
		pasts:   map[string]string{"b": "a", "c": "a", "d": "a b c"},
	}
	checkAll(t, made(t, entry{"a", ""}, entry{"b", "a"}, entry{"c", "a"}, entry{"d", "b c"}), w)
	checkAll(t, made(t, entry{"a", ""}, entry{"c", "a"}, entry{"b", "a"}, entry{"d", "c b c"}), w)
}

// P12.1, P12.2: a dag without entries.
func TestNew(t *testing.T) {
	d := dag.New()
	if d == nil {
		t.Fatal("New: nil")
	}
	checkAll(t, d, want{})
	checkNotThere(t, d, "", "a", strings.Repeat("a", 64))
	checkAdd(t, d, "a", []string{}, api.OK)
	checkAll(t, d, want{heads: "a", order: "a"})
	checkAll(t, dag.New(), want{})
}

// P12.1: ids of 0, 1, 64 and 65 bytes, of any bytes.
func TestIds(t *testing.T) {
	d := dag.New()
	for _, id := range []string{"", strings.Repeat("i", 65), strings.Repeat("\x00", 65), strings.Repeat("i", 70000)} {
		checkAdd(t, d, id, nil, api.ErrArg)
		checkNotThere(t, d, id)
	}
	ids := []string{"\x00", "\x00\x00", "A", "a", "aa", strings.Repeat("i", 63), strings.Repeat("i", 64), "\x7f", "\x80", "\xff", "\xff" + strings.Repeat("\x00", 63)}
	for i, at := range []int{7, 0, 10, 3, 1, 9, 6, 2, 8, 4, 5} {
		checkAdd(t, d, ids[at], nil, api.OK)
		if d.Len() != i+1 || !d.Has(ids[at]) {
			t.Errorf("with %q: Len %d, Has %v", ids[at], d.Len(), d.Has(ids[at]))
		}
	}
	checkList(t, "Heads", d.Heads(), ids)
	checkList(t, "Order", d.Order(), ids)
	parents := slices.Clone(ids)
	slices.Reverse(parents)
	checkAdd(t, d, "new", parents, api.OK)
	checkList(t, "Parents", d.Parents("new"), ids)
	checkList(t, "Past", d.Past("new"), ids)
	checkList(t, "Heads", d.Heads(), []string{"new"})
}

// P12.1: an id that is there, whatever its parents are now.
func TestTwice(t *testing.T) {
	d := made(t, entry{"a", ""}, entry{"b", "a"}, entry{"c", "b"})
	for _, id := range []string{"a", "b", "c"} {
		for _, parents := range [][]string{nil, {"a"}, {"b"}, {id}, {"x"}, {""}} {
			checkAdd(t, d, id, parents, api.ErrTwice)
		}
	}
	checkAll(t, d, want{
		heads: "c", order: "a b c",
		parents: map[string]string{"b": "a", "c": "b"},
		pasts:   map[string]string{"b": "a", "c": "a b"},
	})
}

// P12.1: parents that aren't there, first, amid others and last; the id itself; ids that may not be.
func TestMissing(t *testing.T) {
	d := made(t, entry{"a", ""}, entry{"b", ""})
	w := want{heads: "a b", order: "a b"}
	for _, missing := range []string{"x", "new", "", "A", "aa", "a\x00", strings.Repeat("x", 64), strings.Repeat("x", 65)} {
		for _, parents := range [][]string{{missing}, {missing, "a", "b"}, {"a", missing, "b"}, {"b", "a", missing}, {missing, missing}, {"a", "a", missing}} {
			checkAdd(t, d, "new", parents, api.ErrMissing)
			checkNotThere(t, d, "new", missing)
		}
	}
	checkAll(t, d, w)
	checkAdd(t, d, "new", []string{"b", "a"}, api.OK)
	checkAdd(t, d, "x", []string{"new"}, api.OK)
}

// P12.1: parents that stand there twice, in any order, and many of them.
func TestParents(t *testing.T) {
	for _, parents := range []string{"a b c", "c b a", "b c a b", "a a b b c c", "c a c a c b b a", "b c a" + strings.Repeat(" c", 70000)} {
		d := made(t, entry{"c", ""}, entry{"b", ""}, entry{"a", ""}, entry{"d", parents})
		checkAll(t, d, want{
			heads: "d", order: "a b c d",
			parents: map[string]string{"d": "a b c"},
			pasts:   map[string]string{"d": "a b c"},
		})
	}
	d := made(t, entry{"a", ""}, entry{"b", "a a"}, entry{"c", "b a b"})
	checkAll(t, d, want{
		heads: "c", order: "a b c",
		parents: map[string]string{"b": "a", "c": "a b"},
		pasts:   map[string]string{"b": "a", "c": "a b"},
	})
}

// P12.1, P12.2: a parent that is a parent's parent too, several roots, parts that aren't joined.
func TestShapes(t *testing.T) {
	checkAll(t, made(t, entry{"z", ""}, entry{"y", "z"}, entry{"x", "y z"}, entry{"w", "z"}), want{
		heads: "w x", order: "z w y x",
		parents: map[string]string{"y": "z", "x": "y z", "w": "z"},
		pasts:   map[string]string{"y": "z", "x": "y z", "w": "z"},
	})
	checkAll(t, made(t, entry{"m", ""}, entry{"c", "m"}, entry{"b", ""}, entry{"a", "b"}, entry{"z", ""}, entry{"k", "c z"}), want{
		heads: "a k", order: "b a m c z k",
		parents: map[string]string{"c": "m", "a": "b", "k": "c z"},
		pasts:   map[string]string{"c": "m", "a": "b", "k": "c m z"},
	})
}

// P12.2: the lowest that is ready is told, also when it is lower than what is told already, and not one row behind another.
func TestOrder(t *testing.T) {
	for _, c := range []struct {
		entries []entry
		want    string
	}{
		{[]entry{{"c", ""}, {"a", "c"}, {"b", ""}, {"d", ""}}, "b c a d"},
		{[]entry{{"b", ""}, {"a", "b"}, {"c", ""}}, "b a c"},
		{[]entry{{"e", ""}, {"d", "e"}, {"c", "d"}, {"b", "c"}, {"a", "b"}}, "e d c b a"},
		{[]entry{{"r", ""}, {"z", "r"}, {"a", "z"}, {"m", "r"}, {"y", "m"}}, "r m y z a"},
		{[]entry{{"r", ""}, {"s", ""}, {"a", "r s"}, {"b", "r"}, {"c", "s"}}, "r b s a c"},
		{[]entry{{"1", ""}, {"10", "1"}, {"9", "1"}, {"2", "10"}}, "1 10 2 9"},
		{[]entry{{"B", ""}, {"b", ""}, {"a", ""}, {"A", "a"}}, "B a A b"},
	} {
		checkList(t, "Order", made(t, c.entries...).Order(), strings.Fields(c.want))
	}
}

// P12.2: an id is not in its own past, and what comes behind isn't.
func TestAhead(t *testing.T) {
	d := made(t, entry{"a", ""}, entry{"b", "a"}, entry{"c", "b"}, entry{"d", "a"})
	for _, c := range []struct {
		a, b string
		want bool
	}{
		{"a", "b", true}, {"a", "c", true}, {"b", "c", true}, {"a", "d", true},
		{"a", "a", false}, {"c", "c", false}, {"b", "a", false}, {"c", "a", false}, {"b", "d", false}, {"d", "b", false}, {"d", "c", false}, {"c", "d", false},
		{"x", "c", false}, {"a", "x", false}, {"x", "x", false}, {"x", "y", false}, {"", "c", false}, {"c", "", false},
	} {
		checkAhead(t, d, c.a, c.b, c.want)
	}
	checkNotThere(t, d, "x", "", "ab", strings.Repeat("a", 65))
}

func numbered(i int) string {
	n := strconv.Itoa(i)
	return strings.Repeat("0", 3-len(n)) + n
}

// P12.1: 300 entries, and one more; of the errors the first that is named.
func TestMaxEvents(t *testing.T) {
	d := dag.New()
	for i := range api.MaxEvents {
		checkAdd(t, d, numbered(i), nil, api.OK)
	}
	for range 2 {
		checkAdd(t, d, "new", nil, api.ErrLong)
		checkAdd(t, d, "new", []string{"000"}, api.ErrLong)
		checkAdd(t, d, "new", []string{"x"}, api.ErrLong)
		checkAdd(t, d, "007", nil, api.ErrTwice)
		checkAdd(t, d, "007", []string{"x"}, api.ErrTwice)
		checkAdd(t, d, "", []string{"x"}, api.ErrArg)
		checkAdd(t, d, strings.Repeat("n", 65), nil, api.ErrArg)
		checkAdd(t, d.Copy(), "new", nil, api.ErrLong)
		checkNotThere(t, d, "new")
	}
	if d.Len() != 300 || len(d.Heads()) != 300 || len(d.Order()) != 300 {
		t.Errorf("Len %d, %d heads, %d in order", d.Len(), len(d.Heads()), len(d.Order()))
	}
}

// P12.1: an Add that is refused takes no place.
func TestRefusedTakesNoPlace(t *testing.T) {
	d := dag.New()
	for i := range api.MaxEvents {
		checkAdd(t, d, "", nil, api.ErrArg)
		checkAdd(t, d, "new", []string{"x"}, api.ErrMissing)
		checkAdd(t, d, numbered(i), nil, api.OK)
		checkAdd(t, d, numbered(i), nil, api.ErrTwice)
	}
}

// P12.2: a chain of 300, and a ladder through which more ways lead than could be gone.
func TestLong(t *testing.T) {
	chain, ladder := dag.New(), dag.New()
	var ids, parents []string
	for i := range api.MaxEvents {
		ids = append(ids, numbered(i))
		checkAdd(t, chain, ids[i], ids[max(i-1, 0):i], api.OK)
		if i%2 == 0 {
			parents = ids[max(i-2, 0):i]
		}
		checkAdd(t, ladder, ids[i], parents, api.OK)
	}
	checkList(t, "the chain's Order", chain.Order(), ids)
	checkList(t, "the chain's Heads", chain.Heads(), ids[299:])
	checkList(t, "the chain's Past", chain.Past("299"), ids[:299])
	checkList(t, "the chain's Past", chain.Past("007"), ids[:7])
	checkAhead(t, chain, "000", "299", true)
	checkAhead(t, chain, "299", "000", false)
	checkList(t, "the ladder's Order", ladder.Order(), ids)
	checkList(t, "the ladder's Heads", ladder.Heads(), ids[298:])
	checkList(t, "the ladder's Past", ladder.Past("299"), ids[:298])
	checkAhead(t, ladder, "001", "299", true)
	checkAhead(t, ladder, "298", "299", false)
}

// P12.1: each of 300 has all ahead of it as parents.
func TestDense(t *testing.T) {
	d := dag.New()
	var ids []string
	for i := range api.MaxEvents {
		checkAdd(t, d, numbered(299-i), ids, api.OK)
		ids = append(ids, numbered(299-i))
	}
	checkList(t, "Order", d.Order(), ids)
	checkList(t, "Heads", d.Heads(), []string{"000"})
	slices.Sort(ids)
	checkList(t, "Parents", d.Parents("000"), ids[1:])
	checkList(t, "Past", d.Past("000"), ids[1:])
}

// P12.2: a copy and what it is of go their own ways.
func TestCopy(t *testing.T) {
	first := want{heads: "b c", order: "a b c", parents: map[string]string{"b": "a", "c": "a"}, pasts: map[string]string{"b": "a", "c": "a"}}
	d := made(t, entry{"a", ""}, entry{"b", "a"}, entry{"c", "a"})
	x, y := d.Copy(), d.Copy()
	checkAdd(t, d, "d", []string{"c"}, api.OK)
	checkAdd(t, x, "e", []string{"b", "a"}, api.OK)
	checkAdd(t, x, "d", []string{"a"}, api.OK)
	checkAdd(t, x, "f", []string{"d"}, api.OK)
	checkAdd(t, x.Copy(), "g", []string{"f"}, api.OK)
	checkAll(t, y, first)
	checkAdd(t, y, "e", []string{"d"}, api.ErrMissing)
	checkAll(t, d, want{
		heads: "b d", order: "a b c d",
		parents: map[string]string{"b": "a", "c": "a", "d": "c"},
		pasts:   map[string]string{"b": "a", "c": "a", "d": "a c"},
	})
	checkAll(t, x, want{
		heads: "c e f", order: "a b c d e f",
		parents: map[string]string{"b": "a", "c": "a", "d": "a", "e": "a b", "f": "d"},
		pasts:   map[string]string{"b": "a", "c": "a", "d": "a", "e": "a b", "f": "a d"},
	})

	empty := dag.New()
	z := empty.Copy()
	if z == nil {
		t.Fatal("the copy of a dag without entries: nil")
	}
	checkAdd(t, z, "a", nil, api.OK)
	checkAdd(t, empty, "b", nil, api.OK)
	checkAll(t, z, want{heads: "a", order: "a"})
	checkAll(t, empty, want{heads: "b", order: "b"})
}

// P12.2: a dag that is nil.
func TestNil(t *testing.T) {
	var d *dag.Dag
	for _, id := range []string{"", "a", strings.Repeat("a", 64), strings.Repeat("a", 65)} {
		for _, parents := range [][]string{nil, {}, {"a"}, {"", "x"}} {
			checkAdd(t, d, id, parents, api.ErrArg)
		}
	}
	checkAll(t, d, want{})
	checkNotThere(t, d, "", "a")
	if d.Copy() != nil {
		t.Error("Copy: not nil")
	}
}

// Rule 5: a dag that New didn't make doesn't panic.
func TestNoPanic(t *testing.T) {
	d := new(dag.Dag)
	for _, x := range []*dag.Dag{d, d.Copy()} {
		x.Heads()
		x.Order()
		x.Past("a")
		x.Parents("a")
		x.Ahead("a", "b")
		x.Add("a", nil)
		x.Add("b", []string{"a"})
		x.Order()
	}
}

// Rule 4: parents are neither changed nor kept, their spare room neither.
func TestParentsAreTheirOwners(t *testing.T) {
	d := made(t, entry{"a", ""}, entry{"b", ""}, entry{"c", ""})
	handed := []string{"c", "a", "c", "b", "spare", "room"}
	checkAdd(t, d, "d", handed[:4], api.OK)
	checkAdd(t, d, "e", handed[:5], api.ErrMissing)
	checkList(t, "what was handed in", handed, []string{"c", "a", "c", "b", "spare", "room"})
	for i := range handed {
		handed[i] = "spoilt"
	}
	checkList(t, "Parents", d.Parents("d"), []string{"a", "b", "c"})

	b := []byte("text")
	id := unsafe.String(&b[0], len(b))
	checkAdd(t, d, id, nil, api.OK)
	checkAdd(t, d, "f", []string{id}, api.OK)
	copy(b, "none")
	if !d.Has("text") {
		t.Error("Has(text): false")
	}
	checkList(t, "Parents", d.Parents("f"), []string{"text"})
	checkList(t, "Order", d.Order(), []string{"a", "b", "c", "d", "text", "f"})
}

// Rule 4: what is answered is new memory.
func TestAnswersAreNew(t *testing.T) {
	d := made(t, entry{"a", ""}, entry{"b", "a"}, entry{"c", "a"}, entry{"d", "b c"}, entry{"e", ""})
	asks := []func() []string{
		d.Heads, d.Order,
		func() []string { return d.Parents("d") },
		func() []string { return d.Past("d") },
	}
	w := want{
		heads: "d e", order: "a b c d e",
		parents: map[string]string{"b": "a", "c": "a", "d": "b c"},
		pasts:   map[string]string{"b": "a", "c": "a", "d": "a b c"},
	}
	for _, ask := range asks {
		x, y := ask(), ask()
		for i := range x {
			if unsafe.StringData(x[i]) == unsafe.StringData(y[i]) {
				t.Errorf("%q is the same memory twice", x[i])
			}
		}
		was := slices.Clone(y)
		x = x[:cap(x)]
		for i := range x {
			x[i] = "spoilt"
		}
		_ = append(x[:0], "spoilt")
		checkList(t, "an answer", y, was)
		checkAll(t, d, w)
	}
}

// P12.1, P12.2, P12.3: any entries, added in several orders, held against sums of their pasts.
func TestAnyDags(t *testing.T) {
	for seed := range int64(150) {
		r := rand.New(rand.NewSource(seed))
		m := anyModel(r, 1+r.Intn(40))
		var told []*dag.Dag
		for range 3 {
			d := dag.New()
			for _, i := range m.anyOrder(r) {
				checkAdd(t, d, m.ids[i], m.anyParents(r, i), api.OK)
			}
			checkAsModel(t, d, m)
			told = append(told, d, d.Copy())
		}
		for _, d := range told {
			checkList(t, "Order", d.Order(), told[0].Order())
			checkAsModel(t, d, m)
		}
		if t.Failed() {
			t.Fatalf("with the seed %d", seed)
		}
	}
}

// P12.1: a parent that comes behind its child.
func TestAnyEarly(t *testing.T) {
	for seed := range int64(60) {
		r := rand.New(rand.NewSource(seed))
		m := anyModel(r, 1+r.Intn(25))
		d := dag.New()
		there := make([]bool, len(m.ids))
		for d.Len() < len(m.ids) {
			i := r.Intn(len(m.ids))
			errno := api.OK
			if there[i] {
				errno = api.ErrTwice
			} else if m.lacks(i, there) {
				errno = api.ErrMissing
			}
			checkAdd(t, d, m.ids[i], m.anyParents(r, i), errno)
			there[i] = there[i] || errno == api.OK
			if d.Has(m.ids[i]) != there[i] {
				t.Errorf("Has(%q): %v", m.ids[i], d.Has(m.ids[i]))
			}
			if t.Failed() {
				t.Fatalf("with the seed %d", seed)
			}
		}
		checkAsModel(t, d, m)
	}
}
