package wait_test

import (
	"math"
	"slices"
	"strconv"
	"strings"
	"testing"
	"unsafe"

	"palaver/api"
	"palaver/wait"
)

var errnoNames = []string{"OK", "ErrArg", "ErrForm", "ErrLong", "ErrSign", "ErrSpent", "ErrDisk", "ErrDenied", "ErrBusy", "ErrMissing", "ErrNone", "ErrTwice", "ErrOff"}

func nameOf(errno api.Errno) string {
	if errno < 0 || int(errno) >= len(errnoNames) {
		return "another number"
	}
	return errnoNames[errno]
}

// checkPut puts a text for missing ids that stand in one text.
func checkPut(t *testing.T, w *wait.Wait, id, text, missing string, want api.Errno) {
	t.Helper()
	if got := w.Put(id, text, strings.Fields(missing)); got != want {
		t.Errorf("Put(%q, %.80q, %.200q): %s, not %s", id, text, missing, nameOf(got), nameOf(want))
	}
}

func checkCome(t *testing.T, w *wait.Wait, id string, want ...wait.Got) {
	t.Helper()
	if got := w.Come(id); !slices.Equal(got, want) {
		t.Errorf("Come(%q): %.300q, not %.300q", id, got, want)
	}
}

func checkDrop(t *testing.T, w *wait.Wait, id string, want bool) {
	t.Helper()
	if got := w.Drop(id); got != want {
		t.Errorf("Drop(%q): %v", id, got)
	}
}

func checkMissing(t *testing.T, w *wait.Wait, want ...string) {
	t.Helper()
	if got := w.Missing(); !slices.Equal(got, want) {
		t.Errorf("Missing: %.300q, not %.300q", got, want)
	}
}

// checkWaits tells whether just these wait.
func checkWaits(t *testing.T, w *wait.Wait, ids ...string) {
	t.Helper()
	if w.Len() != len(ids) {
		t.Errorf("Len: %d, not %d", w.Len(), len(ids))
	}
	for _, id := range ids {
		if !w.Has(id) {
			t.Errorf("Has(%q): false", id)
		}
	}
	for _, id := range []string{"", "none", "a", "b", "x", "y", "z"} {
		if w.Has(id) != slices.Contains(ids, id) {
			t.Errorf("Has(%q): %v", id, w.Has(id))
		}
	}
}

func got(id string) wait.Got {
	return wait.Got{Id: id, Text: "text of " + id}
}

// filled is a room where some wait, each told by its id, and the ids that are missing.
func filled(t *testing.T, places int, waiters ...[2]string) *wait.Wait {
	t.Helper()
	w := wait.New(places)
	for _, x := range waiters {
		checkPut(t, w, x[0], "text of "+x[0], x[1], api.OK)
	}
	return w
}

// P13.1: the chapter's example.
func TestExample(t *testing.T) {
	w := filled(t, 1, [2]string{"x", "a b"})
	checkCome(t, w, "a")
	checkCome(t, w, "b", got("x"))
	checkWaits(t, w)
	checkMissing(t, w)
}

// P13.1: places below 0, 0, 300, and more.
func TestNew(t *testing.T) {
	for _, places := range []int{math.MinInt, -300, -2, -1, 301, 302, 1 << 32, math.MaxInt} {
		if wait.New(places) != nil {
			t.Errorf("New(%d): not nil", places)
		}
	}
	for _, places := range []int{0, 1, 2, 8, 299, 300} {
		w := wait.New(places)
		if w == nil {
			t.Fatalf("New(%d): nil", places)
		}
		checkWaits(t, w)
		checkMissing(t, w)
		checkCome(t, w, "a")
		checkDrop(t, w, "a", false)
		for i := range places {
			checkPut(t, w, strconv.Itoa(i), "", "a", api.OK)
			if w.Len() != i+1 || !w.Has(strconv.Itoa(i)) {
				t.Errorf("of %d: Len %d", i+1, w.Len())
			}
		}
		for range 2 {
			checkPut(t, w, "x", "text", "a", api.ErrBusy)
			checkPut(t, w, "y", "text", "b c", api.ErrBusy)
		}
		if w.Len() != places || w.Has("x") || w.Has("y") {
			t.Errorf("of %d: Len %d", places, w.Len())
		}
	}
}

// P13.1: nothing is missing.
func TestPutNothing(t *testing.T) {
	w := filled(t, 2)
	if errno := w.Put("x", "text", nil); errno != api.ErrArg {
		t.Errorf("Put: %s", nameOf(errno))
	}
	checkPut(t, w, "x", "text", "", api.ErrArg)
	checkPut(t, w, "", "", "", api.ErrArg)
	checkWaits(t, w)
	checkCome(t, w, "x")
}

// P13.1: an id that waits; it keeps its text, and what it waits for.
func TestPutTwice(t *testing.T) {
	w := filled(t, 3, [2]string{"x", "a"})
	for range 2 {
		checkPut(t, w, "x", "another", "a", api.ErrTwice)
		checkPut(t, w, "x", "text of x", "b c", api.ErrTwice)
	}
	checkWaits(t, w, "x")
	checkMissing(t, w, "a")
	checkPut(t, w, "y", "text of y", "a", api.OK)
	checkPut(t, w, "y", "text of y", "a", api.ErrTwice)
	checkCome(t, w, "a", got("x"), got("y"))
	checkPut(t, w, "x", "another", "b", api.OK)
	checkCome(t, w, "a")
	checkCome(t, w, "b", wait.Got{Id: "x", Text: "another"})
}

// P13.1: of the errors the first that is named.
func TestPutErrorsInOrder(t *testing.T) {
	w := filled(t, 2, [2]string{"x", "a"})
	checkPut(t, w, "x", "text", "", api.ErrArg)
	checkPut(t, w, "y", "text of y", "b", api.OK)
	checkPut(t, w, "x", "text", "", api.ErrArg)
	checkPut(t, w, "z", "text", "", api.ErrArg)
	checkPut(t, w, "x", "text", "c", api.ErrTwice)
	checkPut(t, w, "y", "text", "c", api.ErrTwice)
	checkPut(t, w, "z", "text", "c", api.ErrBusy)
	checkPut(t, filled(t, 0), "x", "text", "", api.ErrArg)
	checkPut(t, filled(t, 0), "x", "text", "a", api.ErrBusy)
	checkWaits(t, w, "x", "y")
	checkMissing(t, w, "a", "b")
	checkCome(t, w, "a", got("x"))
	checkCome(t, w, "b", got("y"))
}

// P13.1: an id that is missing twice is missing once.
func TestPutMissingTwice(t *testing.T) {
	for _, missing := range []string{"a a", "a a a", "a" + strings.Repeat(" a", 70000)} {
		w := filled(t, 1, [2]string{"x", missing})
		checkMissing(t, w, "a")
		checkCome(t, w, "a", got("x"))
		checkWaits(t, w)
	}
	w := filled(t, 1, [2]string{"x", "b a b a b"})
	checkMissing(t, w, "a", "b")
	checkCome(t, w, "b")
	checkMissing(t, w, "a")
	checkCome(t, w, "a", got("x"))
}

// P13.1: ids and texts of any bytes, and of none.
func TestAnyTexts(t *testing.T) {
	long := strings.Repeat("\xff\x00", 40000)
	w := wait.New(4)
	for _, id := range []string{"", "\x00", "\xff", long} {
		if errno := w.Put(id, id+"t", []string{id + "m", ""}); errno != api.OK {
			t.Errorf("Put(%.20q): %s", id, nameOf(errno))
		}
		if !w.Has(id) {
			t.Errorf("Has(%.20q): false", id)
		}
	}
	checkMissing(t, w, "\x00m", "m", long+"m", "\xffm")
	checkCome(t, w, "")
	checkCome(t, w, long+"m", wait.Got{Id: long, Text: long + "t"})
	checkCome(t, w, "m", wait.Got{Id: "", Text: "t"})
	checkDrop(t, w, "\xff", true)
	checkCome(t, w, "\xffm")
	checkCome(t, w, "\x00m", wait.Got{Id: "\x00", Text: "\x00t"})
	checkWaits(t, w)
}

// P13.1: who leaves is told in the order of Put, whatever its id, and from when it waits for nothing.
func TestComeInOrder(t *testing.T) {
	w := filled(t, 8, [2]string{"z", "a"}, [2]string{"m", "b a"}, [2]string{"c", "a"}, [2]string{"y", "b"}, [2]string{"b2", "a c"}, [2]string{"a2", "a"})
	checkCome(t, w, "a", got("z"), got("c"), got("a2"))
	checkWaits(t, w, "m", "y", "b2")
	checkMissing(t, w, "b", "c")
	checkCome(t, w, "a")
	checkPut(t, w, "a3", "text of a3", "b", api.OK)
	checkPut(t, w, "z", "text of z", "b a", api.OK)
	checkCome(t, w, "b", got("m"), got("y"), got("a3"))
	checkWaits(t, w, "b2", "z")
	checkCome(t, w, "c", got("b2"))
	checkCome(t, w, "b")
	checkCome(t, w, "a", got("z"))
	checkWaits(t, w)
}

// P13.1: an id for which nobody waits; one that waits itself.
func TestComeOfOthers(t *testing.T) {
	w := filled(t, 4, [2]string{"x", "a"}, [2]string{"y", "x a"}, [2]string{"z", "y"})
	for _, id := range []string{"b", "", "z", "A", "aa"} {
		checkCome(t, w, id)
	}
	checkWaits(t, w, "x", "y", "z")
	// That x has come ends what waits for it, not what waits by its name.
	checkCome(t, w, "x")
	checkWaits(t, w, "x", "y", "z")
	checkMissing(t, w, "a")
	// Who leaves hasn't come by that.
	checkCome(t, w, "a", got("x"), got("y"))
	checkWaits(t, w, "z")
	checkMissing(t, w, "y")
	checkCome(t, w, "y", got("z"))
}

// P13.1: what came ahead of Put counts for nothing.
func TestComeAhead(t *testing.T) {
	w := wait.New(2)
	checkCome(t, w, "a")
	checkPut(t, w, "x", "text of x", "a", api.OK)
	checkMissing(t, w, "a")
	checkCome(t, w, "a", got("x"))
	checkPut(t, w, "x", "text of x", "a", api.OK)
	checkCome(t, w, "a", got("x"))
}

// P13.1: an id that waits for itself, and two that wait for one another.
func TestRound(t *testing.T) {
	w := filled(t, 3, [2]string{"x", "x"}, [2]string{"y", "z"}, [2]string{"z", "y"})
	checkMissing(t, w)
	checkCome(t, w, "x", got("x"))
	checkCome(t, w, "y", got("z"))
	checkMissing(t, w, "z")
	checkCome(t, w, "z", got("y"))
	checkMissing(t, w)
	checkWaits(t, w)
}

// P13.1: what leaves makes room.
func TestPlaces(t *testing.T) {
	w := filled(t, 2, [2]string{"x", "a"}, [2]string{"y", "b"})
	checkPut(t, w, "z", "text of z", "a", api.ErrBusy)
	checkCome(t, w, "b", got("y"))
	checkPut(t, w, "z", "text of z", "c", api.OK)
	checkPut(t, w, "y", "text of y", "c", api.ErrBusy)
	checkDrop(t, w, "x", true)
	checkPut(t, w, "y", "text of y", "c", api.OK)
	checkPut(t, w, "x", "text of x", "c", api.ErrBusy)
	checkWaits(t, w, "z", "y")
	checkCome(t, w, "c", got("z"), got("y"))
	checkPut(t, w, "x", "text of x", "c", api.OK)
}

// P13.1: Drop of the first, of one amid others, of the last, of one that waits no more, and of what is only missing.
func TestDrop(t *testing.T) {
	for _, id := range []string{"x", "y", "z"} {
		w := filled(t, 3, [2]string{"x", "a b"}, [2]string{"y", "x a"}, [2]string{"z", "y c a"})
		checkCome(t, w, "b")
		for _, none := range []string{"a", "b", "c", "", "none", "X", "xx"} {
			checkDrop(t, w, none, false)
		}
		checkWaits(t, w, "x", "y", "z")
		checkDrop(t, w, id, true)
		checkDrop(t, w, id, false)
		left := slices.DeleteFunc([]string{"x", "y", "z"}, func(x string) bool { return x == id })
		checkWaits(t, w, left...)
		switch id {
		case "x": // is missing now, as y waits for it
			checkMissing(t, w, "a", "c", "x")
			checkCome(t, w, "a")
			checkCome(t, w, "x", got("y"))
		case "y": // is missing now, as z waits for it; nobody waits for x
			checkMissing(t, w, "a", "c", "y")
			checkCome(t, w, "a", got("x"))
			checkCome(t, w, "c")
			checkCome(t, w, "y", got("z"))
		case "z": // was the only one that waited for c
			checkMissing(t, w, "a")
			checkCome(t, w, "a", got("x"))
			checkCome(t, w, "x", got("y"))
		}
	}
}

// P13.1: missing ids rise, each once; those that wait themselves don't count, whoever waits for them.
func TestMissing(t *testing.T) {
	w := filled(t, 8, [2]string{"m", "\xff b B a"}, [2]string{"k", "b \x00 aa m"}, [2]string{"c", "k m c z"}, [2]string{"a", "b"})
	checkMissing(t, w, "\x00", "B", "aa", "b", "z", "\xff")
	checkCome(t, w, "b", got("a"))
	checkMissing(t, w, "\x00", "B", "a", "aa", "z", "\xff")
	checkDrop(t, w, "k", true)
	checkMissing(t, w, "B", "a", "k", "z", "\xff")
	checkDrop(t, w, "m", true)
	checkMissing(t, w, "k", "m", "z")
	checkDrop(t, w, "c", true)
	checkMissing(t, w)
}

// P13.1: a room that is nil.
func TestNil(t *testing.T) {
	for _, w := range []*wait.Wait{nil, wait.New(-1), wait.New(301)} {
		checkPut(t, w, "x", "text", "a", api.ErrArg)
		checkPut(t, w, "", "", "", api.ErrArg)
		checkCome(t, w, "a")
		checkDrop(t, w, "x", false)
		checkMissing(t, w)
		checkWaits(t, w)
	}
}

// Rule 5: a room that New didn't make doesn't panic.
func TestNoPanic(t *testing.T) {
	w := new(wait.Wait)
	w.Put("x", "text", []string{"a"})
	w.Come("a")
	w.Drop("x")
	w.Missing()
	w.Has("x")
	w.Len()
}

// Rule 4: what is handed in is neither changed nor kept, its spare room neither.
func TestHandedIn(t *testing.T) {
	w := wait.New(2)
	handed := []string{"c", "a", "c", "spare", "room"}
	if errno := w.Put("x", "text of x", handed[:3]); errno != api.OK {
		t.Errorf("Put: %s", nameOf(errno))
	}
	if !slices.Equal(handed, []string{"c", "a", "c", "spare", "room"}) {
		t.Errorf("what was handed in: %q", handed)
	}
	for i := range handed {
		handed[i] = "spoilt"
	}
	checkMissing(t, w, "a", "c")
	checkCome(t, w, "spoilt")
	checkCome(t, w, "c")
	checkCome(t, w, "a", got("x"))

	b := []byte("text")
	text := unsafe.String(&b[0], len(b))
	if errno := w.Put(text, text, []string{text}); errno != api.OK {
		t.Errorf("Put: %s", nameOf(errno))
	}
	copy(b, "none")
	if !w.Has("text") || w.Has("none") {
		t.Errorf("Has: %v, %v", w.Has("text"), w.Has("none"))
	}
	checkCome(t, w, "none")
	checkCome(t, w, "text", wait.Got{Id: "text", Text: "text"})
}

// Rule 4: what is answered is new memory.
func TestAnswersAreNew(t *testing.T) {
	w := filled(t, 4, [2]string{"x", "a b"}, [2]string{"y", "b"}, [2]string{"z", "c b"})
	m, n := w.Missing(), w.Missing()
	for i := range m {
		if unsafe.StringData(m[i]) == unsafe.StringData(n[i]) {
			t.Errorf("%q is the same memory twice", m[i])
		}
	}
	m = m[:cap(m)]
	for i := range m {
		m[i] = "spoilt"
	}
	checkMissing(t, w, "a", "b", "c")
	first := w.Come("b")
	_ = append(first, got("spoilt"), got("spoilt"))
	for i := range first {
		first[i] = got("spoilt")
	}
	second := w.Come("a")
	checkCome(t, w, "c", got("z"))
	if !slices.Equal(second, []wait.Got{got("x")}) {
		t.Errorf("an answer has become %q", second)
	}
}
