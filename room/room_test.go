package room_test

import (
	"math"
	"reflect"
	"slices"
	"strconv"
	"strings"
	"testing"
	"unsafe"

	"palaver/api"
	"palaver/room"
)

// read makes entries of lines: the id, the kind, the author, the parents with commas between ("-": none), the body, if any.
func read(t *testing.T, lines string) []api.Entry {
	t.Helper()
	kinds := map[string]int{"create": api.Create, "post": api.Post, "topic": api.Topic, "add": api.Add, "remove": api.Remove}
	var out []api.Entry
	for _, line := range strings.Split(strings.TrimSpace(lines), "\n") {
		words := append(strings.Fields(line), "")
		if len(words) < 5 {
			t.Fatalf("no entry: %q", line)
		}
		kind, named := kinds[words[1]]
		if n, err := strconv.Atoi(words[1]); err == nil {
			kind = n
		} else if !named {
			t.Fatalf("no kind: %q", line)
		}
		e := api.Entry{Id: words[0], Kind: kind, Author: words[2], Body: words[4]}
		if words[3] != "-" {
			e.Parents = strings.Split(words[3], ",")
		}
		out = append(out, e)
	}
	return out
}

// look is what a room looks like; members and posts are one text each, a post an author, a colon, a text.
type look struct {
	name, topic, members, posts string
}

func (w look) view() api.View {
	v := api.View{Name: w.name, Topic: w.topic, Members: strings.Fields(w.members)}
	for _, post := range strings.Fields(w.posts) {
		author, text, _ := strings.Cut(post, ":")
		v.Posts = append(v.Posts, api.Said{Author: author, Text: text})
	}
	return v
}

func alike(a, b api.View) bool {
	return a.Name == b.Name && a.Topic == b.Topic && slices.Equal(a.Members, b.Members) && slices.Equal(a.Posts, b.Posts)
}

func checkLook(t *testing.T, what, id string, l []api.Entry, want api.View) {
	t.Helper()
	if got := room.Look(id, l); !alike(got, want) {
		t.Errorf("%s: %q, not %q", what, got, want)
	}
}

func told(e api.Entry) string {
	return strconv.Itoa(e.Kind) + " " + strconv.Quote(e.Id) + " by " + strconv.Quote(e.Author) + " behind " + strconv.Quote(strings.Join(e.Parents, " "))
}

func checkMay(t *testing.T, what, id string, l []api.Entry, e api.Entry, want bool) {
	t.Helper()
	if got := room.May(id, l, e); got != want {
		t.Errorf("%s: May of %.300s: %v", what, told(e), got)
	}
}

// chain is a root and posts behind one another, n in all.
func chain(n int) []api.Entry {
	out := []api.Entry{{Id: "0", Kind: api.Create, Author: "a", Body: "n"}}
	for i := 1; i < n; i++ {
		out = append(out, api.Entry{Id: strconv.Itoa(i), Kind: api.Post, Author: "a", Parents: []string{strconv.Itoa(i - 1)}, Body: strconv.Itoa(i)})
	}
	return out
}

// P16.1: the chapter's example, and the least room.
func TestExample(t *testing.T) {
	l := read(t, "r create a - r\np post a r t")
	checkLook(t, "the example", "r", l, look{"r", "", "a", "a:t"}.view())
	checkLook(t, "the root alone", "r", l[:1], look{"r", "", "a", ""}.view())
	checkMay(t, "the example", "r", l[:1], l[1], true)
	checkMay(t, "the example", "r", l[:1], read(t, "p post b r t")[0], false)
}

// P16.1: name and topic.
func TestNameAndTopic(t *testing.T) {
	for what, c := range map[string]struct {
		lines string
		want  look
	}{
		"an empty name": {`
			r create a -
		`, look{"", "", "a", ""}},
		"Creates of other ids name nothing": {`
			s create b - other
			r create a - name
			x create a r another
			y create a x r
		`, look{"name", "", "a", ""}},
		"a root that isn't first": {`
			s post   a - early
			r create a s name
			p post   a r late
		`, look{"name", "", "a", "a:late"}},
		"the last of a line": {`
			r create a - name
			z topic  a r first
			y topic  a z second
			p post   a y x
		`, look{"name", "second", "a", "a:x"}},
		"the last one by the order, not of the list": {`
			r create a - name
			y topic  a r second
			x topic  a r first
		`, look{"name", "second", "a", ""}},
		"the last one by the order, not by ids": {`
			r create a - name
			m topic  a r one
			z post   a r p
			b topic  a z two
		`, look{"name", "two", "a", "a:p"}},
		"an empty one at last": {`
			r create a - name
			x topic  a r first
			y topic  a x
		`, look{"name", "", "a", ""}},
		"each member's": {`
			r create a - name
			x add    a r b
			y topic  b x theirs
		`, look{"name", "theirs", "a b", ""}},
		"not by one that isn't a member": {`
			r create a - name
			x topic  a r first
			y topic  b x second
		`, look{"name", "first", "a", ""}},
		"not one that doesn't hold": {`
			r create a - name
			x add    a r b
			t topic  a x first
			u topic  b t second
			y remove a t b
		`, look{"name", "first", "a", ""}},
		"one by who was removed behind it": {`
			r create a - name
			x add    a r b
			t topic  b x theirs
			y remove a t b
		`, look{"name", "theirs", "a", ""}},
		"other kinds are none": {`
			r create a - name
			p post   a r t
			n 0      a p n
			m 6      a n m
			k -1     a m k
			x add    a k b
			y remove a x b
		`, look{"name", "", "a", "a:t"}},
	} {
		t.Run(what, func(t *testing.T) { checkLook(t, what, "r", read(t, c.lines), c.want.view()) })
	}
}

// P16.1: posts and members.
func TestPostsAndMembers(t *testing.T) {
	for what, c := range map[string]struct {
		lines string
		want  look
	}{
		"none": {`
			r create a - name
			t topic  a r topic
		`, look{"name", "topic", "a", ""}},
		"in the order, not that of the list": {`
			r create a - name
			z post   a r 4
			c post   a r 2
			b post   a c 3
			a post   a r 1
		`, look{"name", "", "a", "a:1 a:2 a:3 a:4"}},
		"in the order, not by ids": {`
			r create a - name
			x add    a r b
			m post   b x 2
			a post   a m 3
			c post   b x 1
		`, look{"name", "", "a b", "b:1 b:2 a:3"}},
		"the same twice": {`
			r create a - name
			p post   a r t
			q post   a p t
			s post   a q t
		`, look{"name", "", "a", "a:t a:t a:t"}},
		"empty ones": {`
			r create a - name
			p post   a r
			q post   a p t
			s post   a q
		`, look{"name", "", "a", "a: a:t a:"}},
		"not by one that isn't a member": {`
			r create a - name
			p post   b r 1
			x add    a p b
			q post   b x 2
			s post   c q 3
		`, look{"name", "", "a b", "b:2"}},
		"not those that don't hold": {`
			r create a - name
			x add    a r b
			p post   b x 1
			y remove a p b
			q post   b p 2
			s post   b y 3
			o post   a q,y 4
		`, look{"name", "", "a", "b:1 a:4"}},
		"what goes on behind one that doesn't hold": {`
			r create a - name
			x add    a r b
			w add    a x c
			y remove a w b
			q post   b w 1
			s post   c q 2
		`, look{"name", "", "a c", "c:2"}},
		"two that remove one another": {`
			r create a - name
			x add    a r b
			w add    a x c
			y remove b w c
			z remove c w b
			p post   b w 1
			q post   c w 2
		`, look{"name", "", "a b", "b:1"}},
		"members by their ranks": {`
			r create c - name
			x add    c r b
			y add    c x a
			z add    b y d
		`, look{"name", "", "c b a d", ""}},
		"a room without members": {`
			r create a - name
			p post   a r t
			y remove a p a
			q post   a y u
		`, look{"name", "", "", "a:t"}},
	} {
		t.Run(what, func(t *testing.T) { checkLook(t, what, "r", read(t, c.lines), c.want.view()) })
	}
}

// P16.1: the order is that of all entries, good or not.
func TestOrderBehindWhatIsNotGood(t *testing.T) {
	l := read(t, `
		r create a - name
		z post   q r bad
		b post   a z 2
		m post   a r 1
	`)
	checkLook(t, "b has to wait for z", "r", l, look{"name", "", "a", "a:1 a:2"}.view())
	l[1].Id, l[2].Parents = "a", []string{"a"}
	checkLook(t, "b hasn't to wait", "r", l, look{"name", "", "a", "a:2 a:1"}.view())
}

// P16.1: bodies, authors and ids of any bytes.
func TestAnyBytes(t *testing.T) {
	for _, text := range []string{"", "\x00", "\xff\xfe", " \n:", strings.Repeat("x", 100000)} {
		id := (text + "i")[:min(len(text)+1, 64)]
		l := []api.Entry{
			{Id: id, Kind: api.Create, Author: text, Body: text},
			{Id: "1", Kind: api.Topic, Author: text, Body: text, Parents: []string{id}},
			{Id: "2", Kind: api.Post, Author: text, Body: text, Parents: []string{"1"}},
		}
		want := api.View{Name: text, Topic: text, Members: []string{text}, Posts: []api.Said{{Author: text, Text: text}}}
		checkLook(t, "any bytes", id, l, want)
		checkMay(t, "any bytes", id, l[:2], l[2], true)
	}
}

// P16.1: of entries that aren't closed there is nothing, and with them nothing may be.
func TestNotClosed(t *testing.T) {
	p := api.Entry{Id: "p", Kind: api.Post, Author: "a", Parents: []string{"r"}}
	for _, lines := range []string{
		"r create a - n\nr create a - n",
		"r create a - n\nx post a r t\nx post a r t",
		"r create a - n\nx post a y t",
		"x post a r t\nr create a - n",
		"r create a - n\nx post a x t",
		"r create a r n",
		"r create a - n\n" + strings.Repeat("x", 65) + " post a r t",
	} {
		l := read(t, lines)
		checkLook(t, lines, "r", l, api.View{})
		checkMay(t, lines, "r", l, p, false)
	}
	checkLook(t, "an empty id", "r", []api.Entry{{Id: "r", Kind: api.Create, Body: "n"}, {}}, api.View{})
	checkLook(t, "an empty room", "", []api.Entry{{Kind: api.Create, Author: "a", Body: "n"}}, api.View{})
	checkLook(t, "301 entries", "0", chain(301), api.View{})
	full := api.View{Name: "n", Members: []string{"a"}}
	for i := 1; i < 300; i++ {
		full.Posts = append(full.Posts, api.Said{Author: "a", Text: strconv.Itoa(i)})
	}
	checkLook(t, "300 entries", "0", chain(300), full)
}

// P16.1: without the root there is nothing.
func TestNoRoot(t *testing.T) {
	checkLook(t, "nil", "r", nil, api.View{})
	checkLook(t, "nil, and no room", "", nil, api.View{})
	checkLook(t, "no entries", "r", []api.Entry{}, api.View{})
	l := read(t, "r create a - n\nx add a r b\ny post b x t\nz topic a y t\nw 0 a r\nv 6 a r\ns create b r m")
	p := api.Entry{Id: "p", Kind: api.Post, Author: "a", Parents: []string{"r"}}
	for _, id := range []string{"", "x", "y", "z", "w", "v", "q", "R", "rr", "r\x00"} {
		checkLook(t, "the room "+id, id, l, api.View{})
		checkMay(t, "the room "+id, id, l, p, false)
	}
	checkLook(t, "another Create's room", "s", l, look{"m", "", "b", ""}.view())
	checkMay(t, "another Create's room", "s", l, p, false)
	p.Author, p.Parents = "b", []string{"s"}
	checkMay(t, "another Create's room", "s", l, p, true)
}

// P16.1
func TestMay(t *testing.T) {
	l := read(t, `
		r  create a - name
		x  add    a r b
		p  post   b x t
		y  remove a p b
		q  post   b p u
		z  add    a y c
	`)
	for _, c := range []struct {
		what, line string
		want       bool
	}{
		{"a member", "e post a z t", true},
		{"a member, behind all heads", "e post c z,q t", true},
		{"a member, behind the root", "e post a r t", true},
		{"each kind", "e topic a z t", true},
		{"each kind", "e add a z d", true},
		{"each kind", "e remove a z d", true},
		{"each kind", "e 0 a z d", true},
		{"each kind", "e 6 a z d", true},
		{"a parent that stands there twice", "e post a z,z t", true},
		{"who was removed, ahead of that", "e post b p t", true},
		{"who was removed, beside that", "e post b q t", true},
		{"who was removed, behind that", "e post b y t", false},
		{"who was removed, behind that too", "e post b q,y t", false},
		{"who was added", "e post c z t", true},
		{"who was added, beside that", "e post c y t", false},
		{"who was added, behind the root", "e post c r t", false},
		{"nobody", "e post d z t", false},
		{"nobody, who adds itself", "e add d z d", false},
		{"no parents", "e post a - t", false},
		{"a Create", "e create a - t", false},
		{"a Create behind others", "e create a z t", false},
		{"an id that is there", "p post a z t", false},
		{"the root's id", "r post a z t", false},
		{"the root again", "r create a - name", false},
		{"a parent that isn't there", "e post a w t", false},
		{"one of two parents that isn't there", "e post a z,w t", false},
		{"its own parent", "e post a e t", false},
		{"an id of 64 bytes", strings.Repeat("e", 64) + " post a z t", true},
		{"an id of 65 bytes", strings.Repeat("e", 65) + " post a z t", false},
	} {
		checkMay(t, c.what, "r", l, read(t, c.line)[0], c.want)
	}
	checkMay(t, "no id", "r", l, api.Entry{Kind: api.Post, Author: "a", Parents: []string{"z"}}, false)
	for _, kind := range []int{math.MinInt, -1, 0, 2, 3, 6, 257, math.MaxInt} {
		e := api.Entry{Id: "e", Kind: kind, Author: "c", Parents: []string{"z"}}
		checkMay(t, "any kind", "r", l, e, true)
		e.Author = "d"
		checkMay(t, "any kind", "r", l, e, false)
	}
}

// P16.1: an entry behind none, or behind such as lack the root, may be that.
func TestMayOfTheRoot(t *testing.T) {
	root := read(t, "r create a - name")[0]
	checkMay(t, "behind nil", "r", nil, root, true)
	checkMay(t, "behind none", "r", []api.Entry{}, root, true)
	checkMay(t, "of another room", "s", nil, root, false)
	checkMay(t, "no room", "", nil, api.Entry{Kind: api.Create, Author: "a"}, false)
	for _, kind := range []int{-1, 0, 2, 3, 4, 5, 6, 257} {
		checkMay(t, "no Create", "r", nil, api.Entry{Id: "r", Kind: kind, Author: "a"}, false)
	}
	others := read(t, "s create b - other\np post b s t")
	checkMay(t, "behind another one", "r", others, root, true)
	root.Parents = []string{"p"}
	checkMay(t, "behind another one", "r", others, root, true)
	root.Parents = []string{"q"}
	checkMay(t, "a parent that isn't there", "r", others, root, false)
}

// P16.1: one behind 299 may be, one behind 300 not.
func TestMayAtTheLimit(t *testing.T) {
	for _, n := range []int{1, 2, 298, 299, 300, 301, 5000} {
		e := api.Entry{Id: "e", Kind: api.Post, Author: "a", Parents: []string{"0"}}
		checkMay(t, strconv.Itoa(n), "0", chain(n), e, n <= 299)
		e.Author = "b"
		checkMay(t, strconv.Itoa(n), "0", chain(n), e, false)
	}
}

// P16.1: by the entries that are handed in, and by the past alone.
func TestMayHangsOnTheList(t *testing.T) {
	l := read(t, "r create a - name\nx add a r b\ny remove a x b")
	e := api.Entry{Id: "e", Kind: api.Post, Author: "b", Parents: []string{"x"}}
	checkMay(t, "all", "r", l, e, true)
	checkMay(t, "without the Remove", "r", l[:2], e, true)
	checkMay(t, "without the Add", "r", l[:1], e, false)
	e.Parents = []string{"r"}
	checkMay(t, "not behind the Add", "r", l[:2], e, false)
}

// Rule 4: what is handed in isn't changed, its spare room neither.
func TestHandedInIsNotChanged(t *testing.T) {
	lines := "r create a - name\nx add a r b\nt topic b x topic\np post b t,x text\nspare post a r spare\nspare post a r spare"
	whole, was := read(t, lines), read(t, lines)
	l := whole[:4]
	e := api.Entry{Id: "e", Kind: api.Post, Author: "a", Parents: []string{"p", "x", "p"}}
	for range 2 {
		checkMay(t, "with spare room", "r", l, e, true)
		checkLook(t, "with spare room", "r", l, look{"name", "topic", "a b", "b:text"}.view())
	}
	if !reflect.DeepEqual(whole, was) {
		t.Errorf("changed to %v", whole)
	}
	if !slices.Equal(e.Parents, []string{"p", "x", "p"}) {
		t.Errorf("parents changed to %q", e.Parents)
	}
}

// Rule 4: what is answered is new memory.
func TestAnswersAreNew(t *testing.T) {
	l := read(t, "r create aa - name\nt topic aa r topic\np post aa t text\nq post aa p more")
	data := func(s string) *byte { return unsafe.StringData(s) }
	texts := func(v api.View) []*byte {
		return []*byte{data(v.Name), data(v.Topic), data(v.Members[0]), data(v.Posts[0].Author), data(v.Posts[0].Text), data(v.Posts[1].Author)}
	}
	x, y := room.Look("r", l), room.Look("r", l)
	all := append(texts(x), texts(y)...)
	for _, e := range l {
		all = append(all, data(e.Author), data(e.Body))
	}
	for i, p := range all[:12] {
		if slices.Contains(all[i+1:], p) {
			t.Errorf("text %d of an answer is memory of something else", i)
		}
	}
	x.Members[0], x.Posts[0] = "spoilt", api.Said{}
	_ = append(x.Members[:1], "spoilt")
	checkLook(t, "once more", "r", l, y)
}
