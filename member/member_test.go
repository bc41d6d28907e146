package member_test

import (
	"math"
	"slices"
	"strconv"
	"strings"
	"testing"
	"unsafe"

	"palaver/api"
	"palaver/member"
)

// read makes entries of lines: the id, the kind, the author, the parents with commas between ("-": none), the body, if any.
func read(t *testing.T, lines string) []api.Entry {
	t.Helper()
	kinds := map[string]int{"create": api.Create, "post": api.Post, "topic": api.Topic, "add": api.Add, "remove": api.Remove}
	var out []api.Entry
	for _, line := range strings.Split(strings.TrimSpace(lines), "\n") {
		words := append(strings.Fields(line), "")
		if len(words) < 5 {
			t.Fatalf("no entry: %q", line)
		}
		kind, named := kinds[words[1]]
		if n, err := strconv.Atoi(words[1]); err == nil {
			kind = n
		} else if !named {
			t.Fatalf("no kind: %q", line)
		}
		e := api.Entry{Id: words[0], Kind: kind, Author: words[2], Body: words[4]}
		if words[3] != "-" {
			e.Parents = strings.Split(words[3], ",")
		}
		out = append(out, e)
	}
	return out
}

// want is what is answered of a room: the ids of what is good, and of what doesn't hold although it is; the members.
type want struct {
	good, undone, members string
}

func checkRoom(t *testing.T, room string, l []api.Entry, w want) {
	t.Helper()
	var good, undone []string
	g, h := member.Good(room, l), member.Holds(room, l)
	if len(g) != len(l) || len(h) != len(l) {
		t.Fatalf("of %d entries: Good %v, Holds %v", len(l), g, h)
	}
	for i, e := range l {
		if g[i] {
			good = append(good, e.Id)
		}
		if g[i] && !h[i] {
			undone = append(undone, e.Id)
		}
		if h[i] && !g[i] {
			t.Errorf("%s holds, and isn't good", e.Id)
		}
	}
	checkList(t, "good", good, strings.Fields(w.good))
	checkList(t, "good, but doesn't hold", undone, strings.Fields(w.undone))
	checkList(t, "members", member.Members(room, l), strings.Fields(w.members))
}

func checkList(t *testing.T, what string, got, want []string) {
	t.Helper()
	if !slices.Equal(got, want) {
		t.Errorf("%s: %q, not %q", what, got, want)
	}
}

func checkNothing(t *testing.T, what, room string, l []api.Entry) {
	t.Helper()
	if g, h, m := member.Good(room, l), member.Holds(room, l), member.Members(room, l); len(g)+len(h)+len(m) != 0 {
		t.Errorf("%s: Good %v, Holds %v, Members %q", what, g, h, m)
	}
}

func checkClosed(t *testing.T, what string, l []api.Entry, want bool) {
	t.Helper()
	if got := member.Closed(l); got != want {
		t.Errorf("Closed of %s: %v", what, got)
	}
}

// chain is a root and entries behind one another, n in all.
func chain(n int) []api.Entry {
	out := []api.Entry{{Id: "0", Kind: api.Create, Author: "a"}}
	for i := 1; i < n; i++ {
		out = append(out, api.Entry{Id: strconv.Itoa(i), Kind: api.Post, Author: "a", Parents: []string{strconv.Itoa(i - 1)}})
	}
	return out
}

// P15.1
func TestClosed(t *testing.T) {
	for _, c := range []struct {
		what, lines string
		want        bool
	}{
		{"one without parents", "r create a -", true},
		{"a line", "r create a -\nx post a r\ny post a x", true},
		{"some that come together", "r create a -\nx post a r\ny post b r\nz post c x,y,r", true},
		{"several without parents, and no Create", "x post a -\ny add b -", true},
		{"two Creates", "r create a -\nx create b r\ny create c -", true},
		{"kinds that aren't known", "r 0 a -\nx 6 a r\ny -1 a x", true},
		{"a parent that stands there twice", "r create a -\nx post a r,r", true},
		{"ids that are case apart", "r create a -\nR post a r", true},
		{"an id twice", "r create a -\nx post a r\nx post a r", false},
		{"an id twice, and the entries unlike", "r create a -\nx post a r\nr post b x", false},
		{"a parent that isn't there", "r create a -\nx post a y", false},
		{"one of two parents that isn't there", "r create a -\nx post a r,y", false},
		{"a parent that isn't ahead", "x post a r\nr create a -", false},
		{"one that is its own parent", "r create a r", false},
		{"two that are each other's parents", "x post a y\ny post a x", false},
		{"an id's piece as a parent", "room create a -\nx post a r", false},
	} {
		checkClosed(t, c.what, read(t, c.lines), c.want)
	}
	checkClosed(t, "nil", nil, true)
	checkClosed(t, "no entries", []api.Entry{}, true)
	checkClosed(t, "an entry of zeros", []api.Entry{{}}, false)
	checkClosed(t, "an empty parent", []api.Entry{{Id: "r"}, {Id: "x", Parents: []string{""}}}, false)
}

// P15.1: ids have 1 to 64 bytes, of any kind.
func TestClosedByTheIdsLengths(t *testing.T) {
	for n := range 200 {
		for _, b := range []string{"x", "\x00", "\xff"} {
			checkClosed(t, "an id of "+strconv.Itoa(n)+" bytes", []api.Entry{{Id: strings.Repeat(b, n)}}, n >= 1 && n <= 64)
		}
	}
	checkClosed(t, "a second id of 65 bytes", []api.Entry{{Id: "r"}, {Id: strings.Repeat("x", 65)}}, false)
	checkClosed(t, "33 letters of two bytes", []api.Entry{{Id: strings.Repeat("é", 33)}}, false)
	checkClosed(t, "32 letters of two bytes", []api.Entry{{Id: strings.Repeat("é", 32)}}, true)
}

// P15.1: at most 300 entries.
func TestClosedByTheCount(t *testing.T) {
	for _, n := range []int{1, 2, 299, 300, 301, 302, 5000} {
		checkClosed(t, strconv.Itoa(n)+" entries", chain(n), n <= 300)
	}
}

// P15.1: what an entry says counts for nothing.
func TestClosedWhateverIsSaid(t *testing.T) {
	for _, kind := range []int{math.MinInt, -1, 0, 1, 2, 3, 4, 5, 6, 1 << 32, math.MaxInt} {
		for _, text := range []string{"", "\x00", strings.Repeat("x", 100000)} {
			e := api.Entry{Id: "x", Kind: kind, Author: text, Body: text}
			checkClosed(t, "kind "+strconv.Itoa(kind), []api.Entry{e}, true)
		}
	}
	var parents []string
	for i := range 300 {
		parents = append(parents, strconv.Itoa(i%20))
	}
	checkClosed(t, "many parents", append(chain(20), api.Entry{Id: "x", Parents: parents}), true)
}

// P15.1: of entries that aren't closed the others answer nothing.
func TestNothingOfWhatIsNotClosed(t *testing.T) {
	for _, lines := range []string{
		"r create a -\nr create a -",
		"r create a -\nx post a y",
		"x post a r\nr create a -",
		"r create a -\nx post a x",
		"r create a -\n" + strings.Repeat("x", 65) + " post a r",
	} {
		checkNothing(t, lines, "r", read(t, lines))
	}
	checkNothing(t, "an empty id", "r", []api.Entry{{Id: "r", Kind: api.Create}, {}})
	checkNothing(t, "an empty room", "", []api.Entry{{Kind: api.Create, Author: "a"}})
	checkNothing(t, "301 entries", "0", chain(301))
	if got := member.Members("0", chain(300)); !slices.Equal(got, []string{"a"}) {
		t.Errorf("Members of 300 entries: %q", got)
	}
	long := strings.Repeat("r", 65)
	checkNothing(t, "a long room", long, []api.Entry{{Id: long, Kind: api.Create, Author: "a"}})
	checkRoom(t, long[:64], []api.Entry{{Id: long[:64], Kind: api.Create, Author: "a"}}, want{long[:64], "", "a"})
}

// P15.1: of entries without the root the others answer nothing.
func TestNothingWithoutTheRoot(t *testing.T) {
	checkNothing(t, "nil", "r", nil)
	checkNothing(t, "nil and no room", "", nil)
	checkNothing(t, "no entries", "r", []api.Entry{})
	l := read(t, "r create a -\nx add a r b\ny post b x\nz create b y\nw 0 a r\nv 6 a r")
	for _, room := range []string{"", "x", "y", "w", "v", "q", "R", "rr", "r\x00"} {
		checkNothing(t, "the room "+room, room, l)
	}
	for _, kind := range []int{math.MinInt, -1, 0, 2, 3, 4, 5, 6, 257, 1<<32 + 1} {
		checkNothing(t, "a root of the kind "+strconv.Itoa(kind), "r", []api.Entry{{Id: "r", Kind: kind, Author: "a"}})
	}
}

// P15.1: the chapter's example, and the least room.
func TestExample(t *testing.T) {
	checkRoom(t, "r", read(t, "r create a -"), want{"r", "", "a"})
	checkRoom(t, "r", read(t, `
		r create a -
		x add    a r b
		y remove a x b
		z remove b x a
	`), want{"r x y z", "z", "a"})
}

// P15.1: who is a member of an entry's past.
func TestGood(t *testing.T) {
	for what, c := range map[string]struct {
		lines string
		want
	}{
		"of each kind but Create": {`
			r  create a -
			p  post   a r t
			t  topic  a r t
			n  0      a r
			m  6      a r
			k  -1     a r
			c  create a r
		`, want{"r p t n m k", "", "a"}},
		"by those that were added": {`
			r  create a -
			p1 post   b r
			x  add    a p1 b
			p2 post   b x
			q  post   c x
			y  add    b x c
			p3 post   c y
			p4 post   d y
			z  add    c y d
			p5 post   d z
		`, want{"r x p2 y p3 z p5", "", "a b c d"}},
		"not by one that is added beside": {`
			r  create a -
			x  add    a r b
			p  post   b r
			q  post   a r
			p2 post   b q
			p3 post   b q,x
		`, want{"r x q p3", "", "a b"}},
		"not without the root": {`
			s  create b -
			n  post   a -
			x  add    a - b
			r  create a -
			p  post   a s
			q  post   a x
			o  post   b x,r
			k  post   a x,r
		`, want{"r k", "", "a"}},
		"a root that isn't first": {`
			x  add    a - b
			s  create b x
			y  remove a s a
			r  create a y
			p  post   a r
			q  post   b r
			z  add    a r b
			w  post   b z
		`, want{"r p z w", "", "a b"}},
		"no Add by one that isn't a member": {`
			r  create a -
			x  add    b r b
			p  post   b x
			y  add    b x c
			q  post   c y
			z  post   a y
		`, want{"r z", "", "a"}},
		"no Remove by one that isn't a member": {`
			r  create a -
			x  remove b r a
			p  post   a x
			y  add    a x b
			z  remove c y b
			q  post   b z
		`, want{"r p y q", "", "a b"}},
		"Adds and Removes alone make members": {`
			r  create a -
			p  post   a r b
			t  topic  a p c
			n  0      a t d
			m  6      a n a
			c  create e m
			o  create a c a
			q  post   b o
			z  post   a o
		`, want{"r p t n m z", "", "a"}},
		"a key is its text, whole": {`
			r  create ab -
			x  post   a r
			y  post   b r
			z  post   AB r
			w  post   abc r
			v  post   ab r
		`, want{"r v", "", "ab"}},
	} {
		t.Run(what, func(t *testing.T) { checkRoom(t, "r", read(t, c.lines), c.want) })
	}
}

// P15.1: a key is a member by an Add that has all in its past that removes the key.
func TestRemoved(t *testing.T) {
	for what, c := range map[string]struct {
		lines string
		want
	}{
		"and added again": {`
			r  create a -
			x  add    a r b
			p1 post   b x
			y  remove a p1 b
			p2 post   b y
			z  add    a p2 b
			p3 post   b z
		`, want{"r x p1 y z p3", "", "a b"}},
		"beside the Add": {`
			r  create a -
			x  add    a r b
			y  remove a r b
			p  post   b x
			q  post   b x,y
			o  post   a x,y
		`, want{"r x y p o", "p", "a"}},
		"and added again beside it": {`
			r  create a -
			x  add    a r b
			y  remove a x b
			z  add    a x b
			p  post   b z
			q  post   b z,y
		`, want{"r x y z p", "p", "a"}},
		"twice, and added again behind each, but not behind both": {`
			r  create a -
			x  add    a r b
			y1 remove a x b
			y2 remove a x b
			z1 add    a y1 b
			z2 add    a y2 b
			p1 post   b z1
			q  post   b z1,z2
		`, want{"r x y1 y2 z1 z2 p1", "p1", "a"}},
		"twice, and added again behind both": {`
			r  create a -
			x  add    a r b
			y1 remove a x b
			y2 remove a x b
			z1 add    a y1 b
			z  add    a y1,y2 b
			q  post   b z,z1
		`, want{"r x y1 y2 z1 z q", "", "a b"}},
		"who wasn't there": {`
			r  create a -
			y  remove a r b
			x  add    a y b
			p  post   b x
			z  remove a p c
		`, want{"r y x p z", "", "a b"}},
		"by itself": {`
			r  create a -
			x  add    a r b
			y  remove b x b
			p  post   b x
			q  post   b y
		`, want{"r x y p", "", "a"}},
		"the founder by itself, the last": {`
			r  create a -
			y  remove a r a
			p  post   a r
			q  post   a y
			x  add    a y a
		`, want{"r y p", "", ""}},
		"the founder, and added again": {`
			r  create a -
			x  add    a r b
			y  remove b x a
			p  post   a y
			q  post   b y
			z  add    b y a
			o  post   a z
		`, want{"r x y q z o", "", "a b"}},
		"the founder, and the other stays": {`
			r  create a -
			x  add    a r b
			y  remove b x a
			p  post   a x
			q  post   a p,y
		`, want{"r x y p", "", "b"}},
		"the one that added others": {`
			r  create a -
			x  add    a r b
			y  add    b x c
			z  remove a y b
			p  post   c z
			q  post   b z
		`, want{"r x y z p", "", "a c"}},
	} {
		t.Run(what, func(t *testing.T) { checkRoom(t, "r", read(t, c.lines), c.want) })
	}
}

// P15.1: what somebody senior removed beside doesn't hold.
func TestHolds(t *testing.T) {
	for what, c := range map[string]struct {
		lines string
		want
	}{
		"beside, and ahead, and behind": {`
			r  create a -
			x  add    a r b
			p1 post   b x
			p2 post   b p1
			y  remove a p1 b
			p3 post   b p2
			q  post   b y
			p4 post   b p3,y
		`, want{"r x p1 p2 y p3", "p2 p3", "a"}},
		"each kind": {`
			r  create a -
			x  add    a r b
			y  remove a x b
			p  post   b x
			t  topic  b x
			n  0      b x
			d  add    b x d
			e  remove b x b
		`, want{"r x y p t n d e", "p t n d e", "a"}},
		"not by somebody junior": {`
			r  create a -
			x  add    a r b
			y  add    a x c
			z  remove c y b
			p  post   b y
			q  post   a y
			w  remove c y a
		`, want{"r x y z p q w", "", "c"}},
		"a Remove that doesn't hold undoes nothing": {`
			r  create a -
			x  add    a r b
			y  add    a x c
			z1 remove a y b
			z2 remove b y c
			p  post   c y
		`, want{"r x y z1 z2 p", "z2", "a c"}},
		"one, and the next not, and so on": {`
			r  create a -
			x  add    a r b
			y  add    a x c
			z  add    a y d
			z1 remove a z b
			z2 remove b z c
			z3 remove c z d
			p  post   d z
			q  post   c z
		`, want{"r x y z z1 z2 z3 p q", "z2 p", "a c"}},
		"a Remove of a Remove behind it": {`
			r  create a -
			x  add    a r b
			y  add    a x c
			z2 remove b y c
			z1 remove a z2 b
			p  post   c y
		`, want{"r x y z2 z1 p", "p", "a"}},
		"a Remove by one that isn't a member": {`
			r  create a -
			x  add    a r c
			z  remove b x c
			p  post   c x
		`, want{"r x p", "", "a c"}},
		"an Add that doesn't hold makes nobody a member": {`
			r  create a -
			x  add    a r b
			y  remove a x b
			z  add    b x d
			p  post   d z
			q  post   d z,y
		`, want{"r x y z p", "z", "a"}},
		"a Remove of somebody else, beside": {`
			r  create a -
			x  add    a r b
			y  add    a x c
			z  remove a y c
			p  post   b y
			q  post   a y
			s  post   a y c
		`, want{"r x y z p q s", "", "a b"}},
		"two that remove one another, and a third one that removes the first": {`
			r  create a -
			x  add    a r b
			y  add    a x c
			z  add    a y d
			z1 remove b z c
			z2 remove c z b
			z3 remove d z b
		`, want{"r x y z z1 z2 z3", "z2", "a d"}},
		"all know it again": {`
			r  create a -
			x  add    a r b
			y  remove a x b
			z  remove b x a
			p  post   a y,z
			q  post   b y,z
			w  add    a p b
			s  post   b w
		`, want{"r x y z p w s", "z", "a b"}},
	} {
		t.Run(what, func(t *testing.T) { checkRoom(t, "r", read(t, c.lines), c.want) })
	}
}

// P15.1: the founder, then by the least good Add: the count of its past, then its id.
func TestRank(t *testing.T) {
	for what, c := range map[string]struct {
		lines string
		want
	}{
		"by the count of the past, not by ids": {`
			r  create a -
			x9 add    a r z
			x5 add    a x9 m
			x1 add    a x5 b
			y1 remove z x1 m
			y2 remove m x1 b
			y3 remove b x1 z
		`, want{"r x9 x5 x1 y1 y2 y3", "y2", "a b"}},
		"by ids, where the counts are the same": {`
			r  create a -
			x2 add    a r b
			x1 add    a r c
			z1 remove b x1,x2 c
			z2 remove c x1,x2 b
		`, want{"r x2 x1 z1 z2", "z1", "a c"}},
		"by ids, byte by byte": {`
			r  create a -
			x\ add    a r b
			xa add    a r c
			x  add    a r d
			Z  add    a r e
		`, want{"r x\\ xa x Z", "", "a e d b c"}},
		"a parent that stands there twice counts once": {`
			r  create a -
			x2 add    a r,r b
			x3 add    a r c
			x1 add    a r,r d
		`, want{"r x2 x3 x1", "", "a d b c"}},
		"what isn't good counts in the past": {`
			r  create a -
			n1 post   q -
			n2 post   q r
			x1 add    a r,n1 b
			x2 add    a r c
			x0 add    a r,n1,n2 d
		`, want{"r x1 x2 x0", "", "a c b d"}},
		"all of the past counts, not the parents alone": {`
			r  create a -
			p1 post   a r
			p2 post   a p1
			x1 add    a p2 b
			q1 post   a r
			x2 add    a r,q1 c
		`, want{"r p1 p2 x1 q1 x2", "", "a c b"}},
		"the least of several Adds": {`
			r  create a -
			x1 add    a r b
			x2 add    a x1 c
			x3 add    a x2 b
			x4 add    a x3 d
			x5 add    a x4 c
		`, want{"r x1 x2 x3 x4 x5", "", "a b c d"}},
		"the least of several Adds, told last": {`
			r  create a -
			x1 add    a r b
			x2 add    a x1 c
			x3 add    a x2 d
			x0 add    a r d
		`, want{"r x1 x2 x3 x0", "", "a d b c"}},
		"an Add that isn't good gives none": {`
			r  create a -
			n  add    q r d
			x1 add    a n b
			x2 add    a x1 c
			x3 add    a x2 d
			z1 remove d x3 c
			z2 remove c x3 d
		`, want{"r x1 x2 x3 z1 z2", "z1", "a b c"}},
		"an Add that is good, but doesn't hold, gives one": {`
			r  create a -
			x1 add    a r b
			n  add    b x1 d
			y  remove a x1 b
			x2 add    a y c
			p  post   a n,x2
			x3 add    a p d
			z1 remove d x3 c
			z2 remove c x3 d
		`, want{"r x1 n y x2 p x3 z1 z2", "n z2", "a d"}},
		"a key's rank is that of its first Add, also once it was removed": {`
			r  create a -
			x1 add    a r b
			x2 add    a x1 c
			y  remove a x2 b
			x3 add    a y b
			z1 remove b x3 c
			z2 remove c x3 b
		`, want{"r x1 x2 y x3 z1 z2", "z2", "a b"}},
		"the founder's is the lowest, also if it is added": {`
			r  create a -
			x1 add    a r b
			x2 add    b x1 a
			p  post   a x2
			z1 remove b p a
			z2 remove a p b
			q  post   a p
		`, want{"r x1 x2 p z1 z2 q", "z1", "a"}},
		"the founder's stays, also if it was removed and added": {`
			r  create a -
			x1 add    a r b
			y  remove b x1 a
			x2 add    b y a
			z1 remove b x2 a
			z2 remove a x2 b
		`, want{"r x1 y x2 z1 z2", "z1", "a"}},
	} {
		t.Run(what, func(t *testing.T) { checkRoom(t, "r", read(t, c.lines), c.want) })
	}
}

// P15.1: ranks in an entry's past are other ones than ranks in all.
func TestRankInThePast(t *testing.T) {
	lines := `
		r  create a -
		x1 add    a r b
		x2 add    a x1 c
		z1 remove b x2 c
		z2 remove c x2 b
		p  post   b z1,z2
		q  post   c z1,z2
	`
	checkRoom(t, "r", read(t, lines), want{"r x1 x2 z1 z2 p", "z2", "a b"})
	// Now c is the senior one; p is good still, and holds, as what removes b came ahead of it.
	lines += "x0 add a r c\n"
	checkRoom(t, "r", read(t, lines), want{"r x1 x2 z1 z2 p x0", "z1", "a c"})
	lines += "s post b x0,p\nt post c x0,p"
	checkRoom(t, "r", read(t, lines), want{"r x1 x2 z1 z2 p x0 t", "z1", "a c"})
}

// P15.1: keys are texts of any bytes.
func TestKeysOfAnyBytes(t *testing.T) {
	keys := []string{"", "\x00", "\xff\xfe", "a\x00", strings.Repeat("k", 32), strings.Repeat("k", 33), strings.Repeat("k", 100000)}
	for _, founder := range keys {
		l := []api.Entry{{Id: "r", Kind: api.Create, Author: founder}}
		members := []string{founder}
		for i, key := range keys {
			last := l[len(l)-1].Id
			l = append(l,
				api.Entry{Id: "n" + strconv.Itoa(i), Kind: api.Post, Author: key, Parents: []string{last}},
				api.Entry{Id: "x" + strconv.Itoa(i), Kind: api.Add, Author: founder, Parents: []string{last}, Body: key},
				api.Entry{Id: "p" + strconv.Itoa(i), Kind: api.Post, Author: key, Parents: []string{"x" + strconv.Itoa(i)}},
			)
			if key != founder {
				members = append(members, key)
			}
		}
		for i, good := range member.Good("r", l) {
			if want := l[i].Id[0] != 'n' || l[i].Author == founder; good != want {
				t.Errorf("by the founder %.40q: %q by %.40q: %v", founder, l[i].Id, l[i].Author, good)
			}
		}
		checkList(t, "members", member.Members("r", l), members)
	}
}

// P15.1: kinds of any number.
func TestKindsOfAnyNumber(t *testing.T) {
	for _, kind := range []int{math.MinInt, -1, 0, 6, 7, 255, 256, 257, 260, 261, 1<<32 + 1, 1<<32 + 4, math.MaxInt} {
		l := append(read(t, "r create a -\nx add a r b"),
			api.Entry{Id: "n", Kind: kind, Author: "b", Parents: []string{"x"}, Body: "a"},
			api.Entry{Id: "m", Kind: kind, Author: "b", Parents: []string{"n"}, Body: "c"},
			api.Entry{Id: "o", Kind: kind, Author: "c", Parents: []string{"m"}, Body: "c"},
		)
		checkRoom(t, "r", l, want{"r x n m", "", "a b"})
	}
}

// P15.1: as many as may be: each removes the next one, all beside each other.
func TestAFullRoom(t *testing.T) {
	key := func(i int) string { return "k" + strconv.Itoa(i) }
	l := []api.Entry{{Id: "r", Kind: api.Create, Author: key(0)}}
	w := want{good: "r", members: key(0)}
	for i := 1; i < 150; i++ {
		l = append(l, api.Entry{Id: "x" + strconv.Itoa(i), Kind: api.Add, Author: key(0), Parents: []string{l[i-1].Id}, Body: key(i)})
		w.good += " x" + strconv.Itoa(i)
	}
	for i := range 150 {
		id := "y" + strconv.Itoa(i)
		l = append(l, api.Entry{Id: id, Kind: api.Remove, Author: key(i), Parents: []string{l[149].Id}, Body: key(i + 1)})
		w.good += " " + id
		if i%2 == 1 {
			w.undone += " " + id
		} else if i > 0 {
			w.members += " " + key(i)
		}
	}
	checkRoom(t, "r", l, w)
}

// P15.1: each of 300 adds and removes, knowing of all that came ahead.
func TestADenseRoom(t *testing.T) {
	var l []api.Entry
	var ids, good []string
	for i := range api.MaxEvents {
		e := api.Entry{Id: strconv.Itoa(i), Kind: api.Add + i%2, Author: "a", Parents: slices.Clone(ids), Body: "k" + strconv.Itoa(i/4)}
		if i == 0 {
			e.Kind = api.Create
		}
		l, ids, good = append(l, e), append(ids, e.Id), append(good, e.Id)
	}
	checkRoom(t, "0", l, want{strings.Join(good, " "), "", "a"})
	members := "a"
	for i := range 75 {
		l[4*i+3].Kind = api.Add
		members += " k" + strconv.Itoa(i)
	}
	checkRoom(t, "0", l, want{strings.Join(good, " "), "", members})
}

// Rule 4: what is handed in is neither changed nor kept.
func TestWhatIsHandedInIsItsOwners(t *testing.T) {
	fresh := func() []api.Entry {
		l := read(t, "r create a -\nx add a r c\ny add a r,x b\nz remove a y c\np post c y\nspare post a r\nroom post a r")
		l[2].Parents = append(l[2].Parents, "spare")[:2]
		return l
	}
	l := fresh()
	handed := l[:5]
	member.Closed(handed)
	g, h, m := member.Good("r", handed), member.Holds("r", handed), member.Members("r", handed)
	for i, e := range fresh() {
		if l[i].Id != e.Id || l[i].Kind != e.Kind || l[i].Author != e.Author || l[i].Body != e.Body || !slices.Equal(l[i].Parents, e.Parents) {
			t.Errorf("%v was changed to %v", e, l[i])
		}
	}
	if spare := l[2].Parents[:3][2]; spare != "spare" {
		t.Errorf("the parents' spare room was changed to %q", spare)
	}
	for i := range l {
		clear(l[i].Parents)
		l[i] = api.Entry{}
	}
	if !slices.Equal(g, []bool{true, true, true, true, true}) || !slices.Equal(h, []bool{true, true, true, true, false}) {
		t.Errorf("Good %v, Holds %v", g, h)
	}
	checkList(t, "members", m, []string{"a", "b"})
}

// Rule 4: what is answered is new memory.
func TestAnswersAreNew(t *testing.T) {
	l := read(t, "r create founder -\nx add founder r second")
	m, other := member.Members("r", l), member.Members("r", l)
	texts := []string{m[0], m[1], other[0], other[1], l[0].Author, l[1].Author, l[1].Body}
	for i, a := range texts {
		for j, b := range texts {
			if i != j && (i < 4 || j < 4) && unsafe.StringData(a) == unsafe.StringData(b) {
				t.Errorf("%q is the same memory twice", a)
			}
		}
	}
	g, h := member.Good("r", l), member.Holds("r", l)
	g[0], h[1], m[0] = false, false, "spoilt"
	checkRoom(t, "r", l, want{"r x", "", "founder second"})
}
